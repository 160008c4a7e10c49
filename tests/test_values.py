"""Point 2 and the interface: what is passed stays, what is returned is new, names and files."""

import copy
import inspect
import unittest

from edenrow import maps, rows
from edenrow.errors import BadMap, OutOfRange

DIFFER = (2, 0, 2, [0, 1, 1, 0])
KEEP = (2, 0, 1, [0, 1])
LAST = (2, 0, 2, [0, 1, 0, 1])
SPREAD = (0, 3, [0, 1, 1, 0])
SIMPLE = (0, 3, [1, 0, 1])

# Each function with arguments that it takes; they are copied for each call.
CALLS = [
    (maps.check_map, (DIFFER,)),
    (maps.new_cell, (DIFFER, [0, 1])),
    (maps.apply_word, (DIFFER, [0, 1, 1])),
    (maps.apply_word, (DIFFER, [])),
    (maps.apply_word, (KEEP, [0, 1, 1])),
    (maps.reduced, (DIFFER,)),
    (maps.reduced, (LAST,)),
    (maps.reduced, (KEEP,)),
    (maps.reduced, ((2, 7, 1, [1, 1]),)),
    (maps.composed, (DIFFER, LAST)),
    (maps.composed, (KEEP, DIFFER)),
    (maps.composed, (DIFFER, KEEP)),
    (maps.composed, (KEEP, KEEP)),
    (maps.power, (DIFFER, 0)),
    (maps.power, (DIFFER, 1)),
    (maps.power, (DIFFER, 3)),
    (maps.power, (KEEP, 0)),
    (maps.power, (KEEP, 1)),
    (maps.power, (KEEP, 100)),
    (maps.shift_map, (2, 0)),
    (maps.shift_map, (4, -3)),
    (maps.same_map, (DIFFER, LAST)),
    (maps.same_map, (LAST, KEEP)),
    (rows.round_image, (DIFFER, [0, 1, 1])),
    (rows.round_image, (KEEP, [0, 1, 1])),
    (rows.round_simple, ([0, 1, 0, 1],)),
    (rows.round_simple, ([0, 1, 1],)),
    (rows.round_cell, ([0, 1, 1], -1)),
    (rows.spread_image, (DIFFER, SPREAD)),
    (rows.spread_image, (KEEP, SIMPLE)),
    (rows.spread_image, (KEEP, (1, 0, []))),
    (rows.spread_simple, (SPREAD,)),
    (rows.spread_simple, (SIMPLE,)),
    (rows.spread_simple, ((1, 0, []),)),
    (rows.spread_simple, ((1, 4, [1]),)),
    (rows.spread_cell, (SPREAD, 4)),
]

REFUSED = [
    (maps.check_map, ((2, 0, 2, [0, 1, 1, 2]),), BadMap),
    (maps.reduced, ((2, 100, 2, [0, 1, 0, 1]),), OutOfRange),
    (maps.composed, (DIFFER, (3, 0, 1, [0, 1, 2])), OutOfRange),
    (maps.power, (DIFFER, 12), OutOfRange),
]

NAMES = {
    maps: {
        "check_map": ["one"],
        "new_cell": ["one", "window"],
        "apply_word": ["one", "word"],
        "reduced": ["one"],
        "composed": ["first", "second"],
        "power": ["one", "exponent"],
        "shift_map": ["size", "places"],
        "same_map": ["first", "second"],
    },
    rows: {
        "round_image": ["one", "row"],
        "round_simple": ["row"],
        "round_cell": ["row", "place"],
        "spread_image": ["one", "row"],
        "spread_simple": ["row"],
        "spread_cell": ["row", "place"],
    },
}


def lists_in(value):
    """All lists in a value, the value itself included."""
    if isinstance(value, (list, tuple)):
        found = [value] if isinstance(value, list) else []
        for part in value:
            found.extend(lists_in(part))
        return found
    return []


class ValuesTest(unittest.TestCase):
    def test_arguments_stay_as_they_were(self):
        for function, given in CALLS:
            given = copy.deepcopy(given)
            before = copy.deepcopy(given)
            function(*given)
            self.assertEqual(given, before, function.__name__)

    def test_arguments_stay_where_an_exception_is_raised(self):
        for function, given, error in REFUSED:
            given = copy.deepcopy(given)
            before = copy.deepcopy(given)
            with self.assertRaises(error):
                function(*given)
            self.assertEqual(given, before, function.__name__)

    def test_returned_lists_are_new(self):
        for function, given in CALLS:
            given = copy.deepcopy(given)
            passed = [id(part) for part in lists_in(given)]
            result = function(*given)
            returned = [id(part) for part in lists_in(result)]
            self.assertEqual(len(returned), len(set(returned)), function.__name__)
            for part in returned:
                self.assertNotIn(part, passed, function.__name__)

    def test_changing_a_returned_list_changes_nothing_else(self):
        for function, given in CALLS:
            given = copy.deepcopy(given)
            before = copy.deepcopy(given)
            result = function(*given)
            expected = copy.deepcopy(result)
            for part in lists_in(result):
                part[:] = [9] * 5
            self.assertEqual(given, before, function.__name__)
            self.assertEqual(function(*given), expected, function.__name__)

    def test_changing_a_passed_list_changes_nothing_else(self):
        for function, given in CALLS:
            passed = copy.deepcopy(given)
            result = function(*passed)
            expected = copy.deepcopy(result)
            for part in lists_in(passed):
                part[:] = [9] * 5
            self.assertEqual(result, expected, function.__name__)
            self.assertEqual(function(*copy.deepcopy(given)), expected, function.__name__)

    def test_one_list_passed_twice(self):
        table = [0, 1, 1, 0]
        one = (2, 0, 2, table)
        self.assertEqual(maps.composed(one, one), (2, 0, 3, [0, 1, 0, 1, 1, 0, 1, 0]))
        self.assertEqual(maps.apply_word(one, table), [1, 0, 1])
        self.assertIs(maps.same_map(one, one), True)
        self.assertEqual(rows.round_image(one, table), [1, 0, 1, 0])
        self.assertEqual(table, [0, 1, 1, 0])

    def test_kinds_of_values(self):
        for function, given in CALLS:
            result = function(*copy.deepcopy(given))
            for part in [result] + list(result if isinstance(result, tuple) else []):
                if function is maps.same_map:
                    self.assertIs(part.__class__, bool)
                elif part is not None:
                    self.assertIn(part.__class__, (int, list, tuple))

    def test_names_arguments_and_files(self):
        for module, functions in NAMES.items():
            for name, parameters in functions.items():
                function = getattr(module, name)
                self.assertTrue(inspect.isfunction(function))
                self.assertEqual(function.__module__, module.__name__)
                self.assertEqual(list(inspect.signature(function).parameters), parameters)


if __name__ == "__main__":
    unittest.main()

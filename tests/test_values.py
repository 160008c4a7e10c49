"""Point 2 and the interface: what is passed stays, what is returned is new, names and files."""

import copy
import inspect
import unittest

from edenrow import desk, inverse, machines, maps, pairs, patterns, reach, rows, sums
from edenrow.errors import BadCommand, BadMachine, BadMap, OutOfRange, TooLong

DIFFER = (2, 0, 2, [0, 1, 1, 0])
KEEP = (2, 0, 1, [0, 1])
LAST = (2, 0, 2, [0, 1, 0, 1])
SPREAD = (0, 3, [0, 1, 1, 0])
SIMPLE = (0, 3, [1, 0, 1])
BOTH = (2, 0, 2, [0, 0, 0, 1])
FIRST = (2, 0, 2, [0, 0, 1, 1])
FULL = (2, 1, [(0, 0, 0), (0, 1, 0)])
SPARSE = (2, 2, [(0, 0, 0), (0, 1, 1), (1, 0, 0)])
CHAIN = (2, 4, [(0, 0, 0), (0, 1, 1), (1, 0, 0), (1, 1, 2), (2, 0, 3)])
NO_STATES = (2, 0, [])
FOUR_STEPS = (2, 0, 4, [0, 1] * 8)
GREAT = (2, 0, 9, [0, 1] * 256)
MOVING = (4, 0, 2, [0, 1, 0, 1, 0, 1, 0, 1, 2, 3, 2, 3, 2, 3, 2, 3])
MOVING_BACK = (4, -1, 2, [0, 0, 2, 2, 1, 1, 3, 3] * 2)


def return_within(one, row, most):
    return patterns.return_of(one, row, most=most)


def patterns_within(one, length, most):
    return patterns.patterns(one, length, most=most)


def asked(one, command):
    return desk.Desk(one).ask(command)


# Each function with arguments that it takes; they are copied for each call.
CALLS = [
    (maps.check_map, (DIFFER,)),
    (maps.new_cell, (DIFFER, [0, 1])),
    (maps.apply_word, (DIFFER, [0, 1, 1])),
    (maps.apply_word, (DIFFER, [])),
    (maps.apply_word, (KEEP, [0, 1, 1])),
    (maps.reduced, (DIFFER,)),
    (maps.reduced, (LAST,)),
    (maps.reduced, (KEEP,)),
    (maps.reduced, ((2, 7, 1, [1, 1]),)),
    (maps.composed, (DIFFER, LAST)),
    (maps.composed, (KEEP, DIFFER)),
    (maps.composed, (DIFFER, KEEP)),
    (maps.composed, (KEEP, KEEP)),
    (maps.power, (DIFFER, 0)),
    (maps.power, (DIFFER, 1)),
    (maps.power, (DIFFER, 3)),
    (maps.power, (KEEP, 0)),
    (maps.power, (KEEP, 1)),
    (maps.power, (KEEP, 100)),
    (maps.shift_map, (2, 0)),
    (maps.shift_map, (4, -3)),
    (maps.same_map, (DIFFER, LAST)),
    (maps.same_map, (LAST, KEEP)),
    (rows.round_image, (DIFFER, [0, 1, 1])),
    (rows.round_image, (KEEP, [0, 1, 1])),
    (rows.round_simple, ([0, 1, 0, 1],)),
    (rows.round_simple, ([0, 1, 1],)),
    (rows.round_cell, ([0, 1, 1], -1)),
    (rows.spread_image, (DIFFER, SPREAD)),
    (rows.spread_image, (KEEP, SIMPLE)),
    (rows.spread_image, (KEEP, (1, 0, []))),
    (rows.spread_simple, (SPREAD,)),
    (rows.spread_simple, (SIMPLE,)),
    (rows.spread_simple, ((1, 0, []),)),
    (rows.spread_simple, ((1, 4, [1]),)),
    (rows.spread_cell, (SPREAD, 4)),
    (machines.check_machine, (SPARSE,)),
    (machines.check_machine, (NO_STATES,)),
    (machines.trimmed, (SPARSE,)),
    (machines.trimmed, (CHAIN,)),
    (machines.trimmed, (NO_STATES,)),
    (machines.states_after, (SPARSE, [1, 0], [0, 1])),
    (machines.states_after, (SPARSE, [0, 1], [])),
    (machines.states_after, (SPARSE, [], [])),
    (machines.reads, (SPARSE, [0, 1])),
    (machines.reads, (SPARSE, [1, 1])),
    (machines.least_lost, (SPARSE,)),
    (machines.least_lost, (FULL,)),
    (machines.least_lost, (NO_STATES,)),
    (machines.least_other, (FULL, SPARSE)),
    (machines.least_other, (SPARSE, FULL)),
    (machines.least_other, (FULL, NO_STATES)),
    (machines.same_rows, (SPARSE, CHAIN)),
    (machines.same_rows, (SPARSE, FULL)),
    (machines.image_machine, (DIFFER,)),
    (machines.image_machine, (KEEP,)),
    (reach.reach_table, (KEEP,)),
    (reach.reach_table, (FOUR_STEPS,)),
    (reach.reach_table, (BOTH,)),
    (reach.is_reach_table, (DIFFER, [[0, 1], [0], [1]])),
    (reach.is_reach_table, (DIFFER, [[0, 1], [1, 0], [2]])),
    (reach.is_orphan, (BOTH, [1, 0, 1])),
    (reach.is_orphan, (BOTH, [])),
    (reach.decide_reach, (FOUR_STEPS,)),
    (reach.decide_reach, (BOTH,)),
    (pairs.diamond_table, (FIRST,)),
    (pairs.diamond_table, (DIFFER,)),
    (pairs.diamond_table, (BOTH,)),
    (pairs.least_diamond, (BOTH,)),
    (pairs.least_diamond, ((3, 0, 1, [2, 2, 0]),)),
    (pairs.least_diamond, (FIRST,)),
    (pairs.is_diamond_table, (FIRST, [(0, 1)])),
    (pairs.is_diamond_table, (FIRST, [(1, 0), (0, 1)])),
    (pairs.is_diamond, (BOTH, [0, 0, 0], [0, 1, 0])),
    (pairs.is_diamond, (BOTH, [0, 1, 0], [0, 0, 0])),
    (pairs.decide_finite, (FIRST,)),
    (pairs.decide_finite, (BOTH,)),
    (inverse.is_twins, (DIFFER, [0, 1, 1], [1, 0, 0])),
    (inverse.is_twins, (DIFFER, [], [1, 0, 0])),
    (inverse.is_inverse, (MOVING, MOVING_BACK)),
    (inverse.is_inverse, (KEEP, LAST)),
    (inverse.decide_reversible, (KEEP,)),
    (inverse.decide_reversible, (MOVING,)),
    (inverse.decide_reversible, (DIFFER,)),
    (inverse.decide_reversible, (BOTH,)),
    (inverse.decide_reversible, ((3, 0, 1, [2, 2, 0]),)),
    (sums.sum_over, (2, [0, 1, 2, 3], [0, 1, 1])),
    (sums.sum_over, (2, [0, 1], [1])),
    (sums.flow_of, (KEEP, [3, 5])),
    (sums.flow_of, (LAST, [0, 0, 1, 1])),
    (sums.flow_of, (DIFFER, [0, 1])),
    (sums.is_flow, (LAST, [0, 1], [0, 1])),
    (sums.is_flow, (LAST, [0, 1], [1, 1])),
    (sums.is_flow, (LAST, [0, 1], [])),
    (sums.normal_form, (2, [3, 5])),
    (sums.normal_form, (2, [0, 0, 1, 1])),
    (sums.normal_form, (2, [0, 1, 0, 1])),
    (sums.kept_sums, (KEEP, 1)),
    (sums.kept_sums, (KEEP, 3)),
    (sums.kept_sums, (DIFFER, 2)),
    (return_within, (KEEP, SPREAD, 3)),
    (return_within, (KEEP, SIMPLE, 3)),
    (return_within, (DIFFER, SIMPLE, 3)),
    (patterns_within, (KEEP, 3, 3)),
    (patterns_within, (DIFFER, 3, 3)),
    (patterns_within, (DIFFER, 0, 0)),
    (asked, (DIFFER, "reach")),
    (asked, (FIRST, "finite")),
    (asked, (MOVING, "reverse")),
    (asked, (LAST, "sums 2")),
    (asked, (DIFFER, "image 0 1 1")),
    (asked, (DIFFER, "after 3 0 1 1")),
    (asked, (DIFFER, "power 0")),
    (asked, (DIFFER, "power 1")),
    (asked, (DIFFER, "power 5")),
]

REFUSED = [
    (maps.check_map, ((2, 0, 2, [0, 1, 1, 2]),), BadMap),
    (maps.reduced, ((2, 100, 2, [0, 1, 0, 1]),), OutOfRange),
    (maps.composed, (DIFFER, (3, 0, 1, [0, 1, 2])), OutOfRange),
    (maps.power, (DIFFER, 12), OutOfRange),
    (machines.check_machine, ((2, 1, [(0, 1, 0), (0, 0, 0)]),), BadMachine),
    (machines.least_other, (SPARSE, (3, 2, [(0, 0, 0), (1, 0, 0)])), OutOfRange),
    (machines.same_rows, (SPARSE, (3, 2, [(0, 0, 0), (1, 0, 0)])), OutOfRange),
    (pairs.diamond_table, (GREAT,), TooLong),
    (pairs.least_diamond, (GREAT,), TooLong),
    (pairs.is_diamond_table, (GREAT, [(3, 4), (1, 2)]), TooLong),
    (pairs.decide_finite, (GREAT,), TooLong),
    (inverse.is_inverse, (GREAT, GREAT), TooLong),
    (inverse.decide_reversible, (GREAT,), TooLong),
    (inverse.decide_reversible, ((2, 100, 2, [0, 1, 0, 1]),), TooLong),
    (sums.sum_over, (2, [0, 1, 2], [0]), OutOfRange),
    (sums.flow_of, (DIFFER, [0, 1, 2]), OutOfRange),
    (sums.flow_of, (GREAT, [0] * 512), TooLong),
    (sums.is_flow, (DIFFER, [1], [0, 0]), OutOfRange),
    (sums.is_flow, (GREAT, [0] * 512, [0, 0]), TooLong),
    (sums.normal_form, (3, [0, 1, 2, 3]), OutOfRange),
    (sums.kept_sums, (DIFFER, 0), OutOfRange),
    (sums.kept_sums, (GREAT, 2), TooLong),
    (return_within, (KEEP, SPREAD, -1), OutOfRange),
    (patterns_within, (KEEP, -1, 3), OutOfRange),
    (patterns_within, (KEEP, 13, 3), TooLong),
    (asked, ((2, 0, 1, [0, 2]), "reach"), BadMap),
    (asked, (DIFFER, "image 2"), BadCommand),
    (asked, (DIFFER, "power 12"), OutOfRange),
    (asked, (GREAT, "reverse"), TooLong),
]

# The functions that answer with True or False.
TRUTHS = [
    maps.same_map,
    machines.reads,
    machines.same_rows,
    reach.is_reach_table,
    reach.is_orphan,
    pairs.is_diamond_table,
    pairs.is_diamond,
    inverse.is_twins,
    inverse.is_inverse,
    sums.is_flow,
]
# The functions whose answer is a tuple that begins with "yes" or "no".
ANSWERS = [reach.decide_reach, pairs.decide_finite, inverse.decide_reversible]

NAMES = {
    maps: {
        "check_map": ["one"],
        "new_cell": ["one", "window"],
        "apply_word": ["one", "word"],
        "reduced": ["one"],
        "composed": ["first", "second"],
        "power": ["one", "exponent"],
        "shift_map": ["size", "places"],
        "same_map": ["first", "second"],
    },
    rows: {
        "round_image": ["one", "row"],
        "round_simple": ["row"],
        "round_cell": ["row", "place"],
        "spread_image": ["one", "row"],
        "spread_simple": ["row"],
        "spread_cell": ["row", "place"],
    },
    machines: {
        "check_machine": ["machine"],
        "trimmed": ["machine"],
        "states_after": ["machine", "states", "word"],
        "reads": ["machine", "word"],
        "least_lost": ["machine"],
        "least_other": ["machine", "other"],
        "same_rows": ["machine", "other"],
        "image_machine": ["one"],
    },
    reach: {
        "reach_table": ["one"],
        "is_reach_table": ["one", "table"],
        "is_orphan": ["one", "word"],
        "decide_reach": ["one"],
    },
    pairs: {
        "diamond_table": ["one"],
        "least_diamond": ["one"],
        "is_diamond_table": ["one", "table"],
        "is_diamond": ["one", "first", "second"],
        "decide_finite": ["one"],
    },
    inverse: {
        "is_twins": ["one", "first", "second"],
        "is_inverse": ["one", "other"],
        "decide_reversible": ["one"],
    },
    sums: {
        "sum_over": ["size", "measure", "row"],
        "flow_of": ["one", "measure"],
        "is_flow": ["one", "measure", "flow"],
        "normal_form": ["size", "measure"],
        "kept_sums": ["one", "length"],
    },
    patterns: {
        "return_of": ["one", "row", "most"],
        "patterns": ["one", "length", "most"],
    },
}


def lists_in(value):
    """All lists in a value, the value itself included."""
    if isinstance(value, (list, tuple)):
        found = [value] if isinstance(value, list) else []
        for part in value:
            found.extend(lists_in(part))
        return found
    return []


class ValuesTest(unittest.TestCase):
    def test_arguments_stay_as_they_were(self):
        for function, given in CALLS:
            given = copy.deepcopy(given)
            before = copy.deepcopy(given)
            function(*given)
            self.assertEqual(given, before, function.__name__)

    def test_arguments_stay_where_an_exception_is_raised(self):
        for function, given, error in REFUSED:
            given = copy.deepcopy(given)
            before = copy.deepcopy(given)
            with self.assertRaises(error):
                function(*given)
            self.assertEqual(given, before, function.__name__)

    def test_returned_lists_are_new(self):
        for function, given in CALLS:
            given = copy.deepcopy(given)
            passed = [id(part) for part in lists_in(given)]
            result = function(*given)
            returned = [id(part) for part in lists_in(result)]
            self.assertEqual(len(returned), len(set(returned)), function.__name__)
            for part in returned:
                self.assertNotIn(part, passed, function.__name__)

    def test_changing_a_returned_list_changes_nothing_else(self):
        for function, given in CALLS:
            given = copy.deepcopy(given)
            before = copy.deepcopy(given)
            result = function(*given)
            expected = copy.deepcopy(result)
            for part in lists_in(result):
                part[:] = [9] * 5
            self.assertEqual(given, before, function.__name__)
            self.assertEqual(function(*given), expected, function.__name__)

    def test_changing_a_passed_list_changes_nothing_else(self):
        for function, given in CALLS:
            passed = copy.deepcopy(given)
            result = function(*passed)
            expected = copy.deepcopy(result)
            for part in lists_in(passed):
                part[:] = [9] * 5
            self.assertEqual(result, expected, function.__name__)
            self.assertEqual(function(*copy.deepcopy(given)), expected, function.__name__)

    def test_one_list_passed_twice(self):
        table = [0, 1, 1, 0]
        one = (2, 0, 2, table)
        self.assertEqual(maps.composed(one, one), (2, 0, 3, [0, 1, 0, 1, 1, 0, 1, 0]))
        self.assertEqual(maps.apply_word(one, table), [1, 0, 1])
        self.assertIs(maps.same_map(one, one), True)
        self.assertEqual(rows.round_image(one, table), [1, 0, 1, 0])
        self.assertEqual(table, [0, 1, 1, 0])

    def test_kinds_of_values(self):
        for function, given in CALLS:
            result = function(*copy.deepcopy(given))
            if function is asked:
                self.assertIs(result.__class__, str)
                continue
            if function in TRUTHS:
                self.assertIs(result.__class__, bool, function.__name__)
                continue
            if function in ANSWERS:
                self.assertIs(result.__class__, tuple)
                self.assertIn(result[0], ["yes", "no"])
                result = result[1:]
            self.check_kinds(function, [] if result is None else [result])

    def check_kinds(self, function, values):
        for value in values:
            self.assertIn(value.__class__, (int, list, tuple), function.__name__)
            if value.__class__ is not int:
                self.check_kinds(function, value)

    def test_one_machine_and_one_word_passed_twice(self):
        word = [0, 1, 0]
        self.assertIsNone(machines.least_other(SPARSE, SPARSE))
        self.assertIs(machines.same_rows(CHAIN, CHAIN), True)
        self.assertIs(pairs.is_diamond(BOTH, word, word), False)
        self.assertEqual(machines.states_after(SPARSE, word, word), [0])
        self.assertIs(reach.is_reach_table(FIRST, [word[:2]] * 2), False)
        self.assertEqual(word, [0, 1, 0])

    def test_names_arguments_and_files(self):
        for module, functions in NAMES.items():
            for name, parameters in functions.items():
                function = getattr(module, name)
                self.assertTrue(inspect.isfunction(function))
                self.assertEqual(function.__module__, module.__name__)
                self.assertEqual(list(inspect.signature(function).parameters), parameters)

    def test_what_is_passed_by_keyword(self):
        for function in [patterns.return_of, patterns.patterns]:
            parameters = inspect.signature(function).parameters.values()
            kinds = [parameter.kind for parameter in parameters]
            self.assertEqual(kinds[2], inspect.Parameter.KEYWORD_ONLY)
            self.assertEqual(kinds[:2], [inspect.Parameter.POSITIONAL_OR_KEYWORD] * 2)
            for parameter in inspect.signature(function).parameters.values():
                self.assertIs(parameter.default, inspect.Parameter.empty)

    def test_the_desk(self):
        self.assertEqual(desk.Desk.__module__, "edenrow.desk")
        self.assertEqual(list(inspect.signature(desk.Desk).parameters), ["one"])
        self.assertTrue(inspect.isfunction(vars(desk.Desk)["ask"]))
        self.assertEqual(list(inspect.signature(desk.Desk.ask).parameters), ["self", "command"])


if __name__ == "__main__":
    unittest.main()

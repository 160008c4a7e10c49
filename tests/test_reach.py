"""Points 14 to 16: reach tables, orphans, the answer whether a map reaches every row."""

import random
import unittest

from edenrow.errors import TooLong
from edenrow.machines import image_machine, least_lost
from edenrow.reach import decide_reach, is_orphan, is_reach_table, reach_table
from tests.reference import (
    ends_of_paths,
    is_read,
    least_word,
    nearly_permuting_map,
    permuting_map,
    random_map,
    sets_reached,
    tables,
    widened,
    words,
)

DIFFER = (2, 0, 2, [0, 1, 1, 0])
KEEP = (2, 0, 1, [0, 1])
SECOND = (2, 0, 2, [0, 1, 0, 1])
RULE_110 = (2, -1, 3, [0, 1, 1, 1, 0, 1, 1, 0])
LAST_OF_FOUR = (2, 0, 4, [0, 1] * 8)
# 19583 sets can be reached.
MANY_SETS = (2, 0, 5, [int(cell) for cell in "10011001010110100110010110100101"])
# 20196 sets can be reached.
TOO_MANY_SETS = (2, 0, 6, [int(cell) for cell in "1010011001100110101010011010011010010110011001101001010110010101"])


def some_maps(seed, many):
    rng = random.Random(seed)
    for _ in range(many):
        size, width = rng.choice([(2, 1), (2, 2), (2, 3), (2, 4), (3, 1), (3, 2), (4, 1), (4, 2)])
        yield rng.choice([random_map, permuting_map, nearly_permuting_map])(rng, size, width)


class ReachTableTest(unittest.TestCase):
    def check(self, one):
        """Compare with the sets that are found by looking at all arrows; tell whether there is a table."""
        machine = image_machine(one)
        found = sets_reached(machine)
        lost = [
            states
            for states in found
            for cell in range(one[0])
            if not ends_of_paths(machine, states, [cell])
        ]
        result = reach_table(one)
        if lost:
            self.assertIsNone(result)
            self.assertEqual(decide_reach(one), ("no", least_lost(machine)))
        else:
            self.assertEqual(result, [sorted(states) for states in found])
            self.assertIs(is_reach_table(one, result), True)
            self.assertEqual(decide_reach(one), ("yes", result))
        return not lost

    def test_examples(self):
        self.assertEqual(reach_table(KEEP), [[0]])
        self.assertEqual(reach_table((4, 3, 1, [2, 0, 3, 1])), [[0]])
        self.assertEqual(reach_table(DIFFER), [[0, 1]])
        self.assertEqual(reach_table(SECOND), [[0, 1], [0], [1]])
        self.assertEqual(reach_table((2, 0, 2, [0, 0, 1, 1])), [[0, 1]])
        self.assertEqual(reach_table((2, 0, 2, [1, 0, 1, 0])), [[0, 1], [1], [0]])
        self.assertIsNone(reach_table(RULE_110))
        self.assertIsNone(reach_table((2, 0, 1, [1, 1])))
        self.assertIsNone(reach_table((3, 0, 1, [0, 1, 0])))

    def test_order_in_which_sets_are_found(self):
        expected = [list(range(8)), [0, 2, 4, 6], [1, 3, 5, 7], [0, 4], [1, 5], [2, 6], [3, 7]]
        expected += [[state] for state in range(8)]
        self.assertEqual(reach_table(LAST_OF_FOUR), expected)

    def test_all_small_tables(self):
        answers = {}
        for size, width in [(2, 1), (2, 2), (2, 3), (3, 1), (4, 1)]:
            answers[size, width] = 0
            for table in tables(size, width):
                answers[size, width] += self.check((size, 1, width, table))
        # Permutations; 6 tables of two cells; 30 of three cells.
        self.assertEqual(answers, {(2, 1): 2, (2, 2): 6, (2, 3): 30, (3, 1): 6, (4, 1): 24})

    def test_random_maps(self):
        answers = [self.check(one) for one in some_maps(151, 300)]
        self.assertIn(True, answers)
        self.assertIn(False, answers)

    def test_every_size_and_width(self):
        for size, most in [(2, 12), (3, 7), (4, 6)]:
            for width in range(1, most + 1):
                first = (size, 7, width, [cell for cell in range(size) for _ in range(size ** (width - 1))])
                self.assertEqual(reach_table(first), [list(range(size ** (width - 1)))])
                last = (size, 7, width, list(range(size)) * size ** (width - 1))
                result = reach_table(last)
                self.assertEqual(len(result), sum(size ** length for length in range(width)))
                self.assertEqual(result[-1], [size ** (width - 1) - 1])
                self.assertIs(is_reach_table(last, result), True)
                self.assertIsNone(reach_table((size, 7, width, [1] * size ** width)))

    def test_many_sets(self):
        result = reach_table(MANY_SETS)
        self.assertEqual(len(result), 19583)
        self.assertEqual(decide_reach(MANY_SETS), ("yes", result))
        self.assertIs(is_reach_table(MANY_SETS, result), True)
        self.assertIs(is_reach_table(MANY_SETS, result[:-1]), False)

    def test_too_many_sets(self):
        rng = random.Random(152)
        for one in [TOO_MANY_SETS, permuting_map(rng, 2, 12), permuting_map(rng, 3, 7), permuting_map(rng, 4, 6)]:
            with self.assertRaises(TooLong):
                reach_table(one)
            with self.assertRaises(TooLong):
                decide_reach(one)

    def test_an_orphan_may_be_found_before_too_many_sets(self):
        rng = random.Random(153)
        one = permuting_map(rng, 2, 12)
        for place in range(0, len(one[3]), 2):
            one[3][place:place + 2] = [1, 1]
        self.assertEqual(decide_reach(one), ("no", [0]))


class IsReachTableTest(unittest.TestCase):
    def expect(self, one, table, answer):
        self.assertIs(is_reach_table(one, table), answer, (one, table))

    def test_order_does_not_matter(self):
        rng = random.Random(154)
        for one in some_maps(155, 100):
            table = reach_table(one)
            if table is not None:
                self.expect(one, table[::-1], True)
                self.expect(one, rng.sample(table, len(table)), True)

    def test_a_set_left_out(self):
        for one in [KEEP, DIFFER, SECOND, LAST_OF_FOUR] + list(some_maps(156, 60)):
            table = reach_table(one)
            for place in range(len(table or [])):
                self.expect(one, table[:place] + table[place + 1:], False)

    def test_a_set_twice(self):
        for one in [KEEP, DIFFER, SECOND, LAST_OF_FOUR]:
            table = reach_table(one)
            for row in table:
                self.expect(one, table + [list(row)], False)
                self.expect(one, table + [row], False)

    def test_the_empty_set(self):
        for one in [KEEP, DIFFER, SECOND, LAST_OF_FOUR]:
            table = reach_table(one)
            self.expect(one, table + [[]], False)
            self.expect(one, [[]] + table, False)
        # With the empty set this would be closed.
        self.expect((2, 0, 1, [0, 0]), [[0], []], False)
        self.expect((2, 0, 2, [0, 0, 0, 0]), [[0, 1], []], False)

    def test_lists_that_do_not_ascend(self):
        self.expect(DIFFER, [[1, 0]], False)
        self.expect(DIFFER, [[0, 0, 1]], False)
        self.expect(DIFFER, [[0, 1, 1]], False)
        self.expect(KEEP, [[0, 0]], False)
        table = reach_table(LAST_OF_FOUR)
        for place in range(7):
            turned = [list(row) for row in table]
            turned[place].reverse()
            self.expect(LAST_OF_FOUR, turned, False)
            self.expect(LAST_OF_FOUR, table + [table[place][::-1]], False)
            doubled = [list(row) for row in table]
            doubled[place].append(doubled[place][-1])
            self.expect(LAST_OF_FOUR, doubled, False)

    def test_states_that_do_not_exist(self):
        for state in [-1, -2, 2, 3, 2048, 10 ** 20, -10 ** 20]:
            self.expect(DIFFER, [[0, 1], [state]], False)
            self.expect(DIFFER, [sorted([0, 1, state])], False)
            self.expect(SECOND, [[0, 1], [0], [1], [state]], False)
            self.expect(SECOND, [[0, 1], [0], [1], sorted([0, state])], False)
            self.expect(SECOND, [[0, 1], [0], sorted([1, state])], False)
        for state in [-1, 1, 2]:
            self.expect(KEEP, [[0], [state]], False)
            self.expect(KEEP, [[state]], False)

    def test_further_sets(self):
        # The sets after a set of one state of these maps are sets of one state.
        self.expect(DIFFER, [[0, 1], [0], [1]], True)
        self.expect(DIFFER, [[0], [1], [0, 1]], True)
        self.expect(DIFFER, [[0, 1], [0]], False)
        self.expect(DIFFER, [[0, 1], [1]], False)
        table = reach_table(LAST_OF_FOUR)
        self.expect(LAST_OF_FOUR, table + [[0, 2, 4], [1, 3]], True)
        self.expect(LAST_OF_FOUR, [[1, 3], [0, 2, 4]] + table, True)
        self.expect(LAST_OF_FOUR, table + [[0, 1]], False)
        self.expect(LAST_OF_FOUR, table + [[0, 1], [0, 2]], False)
        self.expect(LAST_OF_FOUR, table + [[0, 1], [1, 3]], False)
        self.expect(LAST_OF_FOUR, table + [[0, 1], [0, 2], [1, 3]], True)
        # From 0 of this map no arrow has the cell 1, from 1 none has the cell 0.
        first = (2, 0, 2, [0, 0, 1, 1])
        self.expect(first, [[0, 1]], True)
        self.expect(first, [[0, 1], [0]], False)
        self.expect(first, [[0, 1], [0], [1]], False)
        self.expect(first, [[0, 1], [0], [1], []], False)

    def test_without_the_set_of_all_states(self):
        self.expect(DIFFER, [[0], [1]], False)
        self.expect(SECOND, [[0], [1]], False)
        for one in [KEEP, DIFFER, SECOND, RULE_110, LAST_OF_FOUR, MANY_SETS]:
            self.expect(one, [], False)
            self.expect(one, [[]], False)

    def test_maps_with_orphans(self):
        self.expect((2, 0, 1, [1, 1]), [[0]], False)
        self.expect((2, 0, 2, [0, 0, 0, 1]), [[0], [1], [0, 1]], False)
        everything = [[state for state in range(4) if mask >> state & 1] for mask in range(1, 16)]
        self.expect(RULE_110, everything, False)
        self.expect(RULE_110, everything + [[]], False)

    def test_all_lists_of_sets(self):
        for width in [1, 2]:
            states = 2 ** (width - 1)
            sets = [[state for state in range(states) if mask >> state & 1] for mask in range(2 ** states)]
            for table in tables(2, width):
                one = (2, 0, width, table)
                machine = image_machine(one)
                for chosen in range(2 ** len(sets)):
                    rows = [row for at, row in enumerate(sets) if chosen >> at & 1]
                    closed = all(
                        sorted(ends_of_paths(machine, row, [cell])) in rows
                        for row in rows
                        for cell in [0, 1]
                    )
                    self.expect(one, rows, closed and sets[-1] in rows and [] not in rows)

    def test_other_maps(self):
        self.expect(SECOND, reach_table(DIFFER), False)
        self.expect(DIFFER, reach_table(SECOND), True)
        self.expect(widened(DIFFER, 0, 1), reach_table(DIFFER), False)

    def test_is_never_refused(self):
        rng = random.Random(157)
        one = permuting_map(rng, 2, 12)
        self.expect(one, [list(range(2048))], False)
        self.expect(one, [list(range(2048))] + [[state] for state in range(2048)], False)
        self.expect(TOO_MANY_SETS, [list(range(32))], False)


class OrphanTest(unittest.TestCase):
    def test_examples(self):
        self.assertIs(is_orphan(RULE_110, [0, 1, 0, 1, 0]), True)
        self.assertIs(is_orphan(RULE_110, [0, 1, 0, 1]), False)
        self.assertIs(is_orphan((2, 0, 1, [1, 1]), [1, 1, 1]), False)
        self.assertIs(is_orphan((2, 0, 1, [1, 1]), [1, 0, 1]), True)
        both = (2, 0, 2, [0, 0, 0, 1])
        self.assertIs(is_orphan(both, [1, 0, 1]), True)
        self.assertIs(is_orphan(both, [1, 0, 0, 1]), False)

    def test_the_empty_word(self):
        for one in [KEEP, DIFFER, RULE_110, (2, 0, 1, [1, 1]), MANY_SETS, (4, 0, 6, [0] * 4096)]:
            self.assertIs(is_orphan(one, []), False)

    def test_words_of_every_length(self):
        rng = random.Random(158)
        for one in some_maps(159, 60):
            size, _, width, table = one
            for length in range(6 if size == 2 else 3):
                images = []
                for word in words(size, length + width - 1):
                    windows = [word[at:at + width] for at in range(length)]
                    images.append([table[int("".join(map(str, window)), size)] for window in windows])
                for word in words(size, length):
                    self.assertIs(is_orphan(one, word), word not in images)
        for one in [DIFFER, MANY_SETS, LAST_OF_FOUR]:
            for length in [10, 100, 1000]:
                word = [rng.randrange(2) for _ in range(length)]
                self.assertIs(is_orphan(one, word), False)
        long = [0] * 1000
        self.assertIs(is_orphan(RULE_110, long), False)
        self.assertIs(is_orphan(RULE_110, long + [0, 1, 0, 1, 0] + long), True)

    def test_the_offset_does_not_matter(self):
        for offset in [-100, -1, 0, 1, 100]:
            one = (2, offset, 3, RULE_110[3])
            self.assertIs(is_orphan(one, [0, 1, 0, 1, 0]), True)
            self.assertEqual(decide_reach(one), ("no", [0, 1, 0, 1, 0]))
            self.assertEqual(reach_table((2, offset, 2, [0, 1, 0, 1])), [[0, 1], [0], [1]])

    def test_maps_that_are_not_reduced(self):
        for one in some_maps(160, 60):
            wide = widened(one, 1, 1)
            self.assertEqual(decide_reach(wide)[0], decide_reach(one)[0])
            if decide_reach(one)[0] == "no":
                self.assertEqual(decide_reach(wide), decide_reach(one))

    def test_great_maps(self):
        for size, width in [(2, 12), (3, 7), (4, 6)]:
            self.assertIs(is_orphan((size, 0, width, [0] * size ** width), [0] * 50), False)
            self.assertIs(is_orphan((size, 0, width, [0] * size ** width), [0] * 50 + [1]), True)


class DecideReachTest(unittest.TestCase):
    def test_examples(self):
        self.assertEqual(decide_reach(KEEP), ("yes", [[0]]))
        self.assertEqual(decide_reach(DIFFER), ("yes", [[0, 1]]))
        self.assertEqual(decide_reach(SECOND), ("yes", [[0, 1], [0], [1]]))
        self.assertEqual(decide_reach(RULE_110), ("no", [0, 1, 0, 1, 0]))
        self.assertEqual(decide_reach((2, 0, 1, [1, 1])), ("no", [0]))
        self.assertEqual(decide_reach((2, 0, 1, [0, 0])), ("no", [1]))
        self.assertEqual(decide_reach((4, 0, 1, [0, 1, 3, 1])), ("no", [2]))
        self.assertEqual(decide_reach((2, 0, 2, [0, 0, 0, 1])), ("no", [1, 0, 1]))

    def test_the_least_orphan(self):
        answers = []
        for one in some_maps(161, 400):
            answer = decide_reach(one)
            answers.append(answer[0])
            machine = image_machine(one)
            longest = 5 if one[0] == 2 else 4
            expected = least_word(one[0], lambda word: not is_read(machine, word), longest)
            if answer[0] == "no":
                self.assertEqual(len(answer), 2)
                self.assertIs(is_orphan(one, answer[1]), True)
                self.assertGreater(len(answer[1]), 0)
                if len(answer[1]) <= longest or expected is not None:
                    self.assertEqual(answer[1], expected)
                for place in range(len(answer[1])):
                    self.assertIs(is_orphan(one, answer[1][:place]), False)
            else:
                self.assertIsNone(expected)
        self.assertGreater(answers.count("no"), 50)
        self.assertGreater(answers.count("yes"), 50)

    def test_long_orphans(self):
        one = (3, 0, 3, [int(cell) for cell in "120012210022120120201201201"])
        self.assertEqual(decide_reach(one), ("no", [0, 0, 0, 0, 2, 1, 1, 0, 1, 1, 1]))
        machine = image_machine(one)
        expected = least_word(3, lambda word: not is_read(machine, word), 7)
        self.assertIsNone(expected)
        self.assertIs(is_orphan(one, [0, 0, 0, 0, 2, 1, 1, 0, 1, 1, 1]), True)


if __name__ == "__main__":
    unittest.main()

"""Points 17 to 20: diamonds, diamond tables, the answer whether a map has no diamond."""

import random
import unittest
from itertools import combinations

from edenrow.errors import TooLong
from edenrow.maps import apply_word, shift_map
from edenrow.pairs import (
    decide_finite,
    diamond_table,
    is_diamond,
    is_diamond_table,
    least_diamond,
)
from edenrow.reach import decide_reach
from tests.reference import (
    least_diamond_of,
    nearly_permuting_map,
    pairs_found,
    permuting_map,
    random_map,
    tables,
    widened,
    words,
)

DIFFER = (2, 0, 2, [0, 1, 1, 0])
BOTH = (2, 0, 2, [0, 0, 0, 1])
FIRST = (2, 0, 2, [0, 0, 1, 1])
FIRST_OF_THREE = (2, 0, 3, [0, 0, 0, 0, 1, 1, 1, 1])
RULE_110 = (2, -1, 3, [0, 1, 1, 1, 0, 1, 1, 0])
# The greatest widths with at most 150 states, and the least ones with more.
GREATEST = {2: 8, 3: 5, 4: 4}


def some_maps(seed, many):
    rng = random.Random(seed)
    for _ in range(many):
        size, width = rng.choice([(2, 1), (2, 2), (2, 3), (2, 4), (3, 1), (3, 2), (4, 1), (4, 2)])
        one = rng.choice([random_map, permuting_map, nearly_permuting_map])(rng, size, width)
        yield rng.choice([one, mirrored(one)])


def mirrored(one):
    """The map with the windows read from right to left."""
    size, offset, width, table = one
    result = []
    for word in words(size, width):
        result.append(table[int("".join(map(str, word[::-1])), size)])
    return (size, offset, width, result)


def least_table(one):
    """The pairs that are found by the rules, as a set, also those of equal states."""
    found = set()
    new = {(state, state) for state in range(one[0] ** (one[2] - 1))}
    while new:
        after = set()
        for s, t in new:
            after |= pairs_found(one, s, t)
        new = after - found
        found |= after
    return found


def diamond_of_length(one, length):
    """The least diamond of a length, with first words in ascending order, and the words beside each."""
    size, _, width, _ = one
    head = width - 1

    def beside(first, seconds):
        # Of the words with one end, other than the first word itself, the least one is enough.
        ends = {}
        for word in [second + [cell] for second in seconds for cell in range(size)]:
            if apply_word(one, word) == apply_word(one, first):
                ends.setdefault((word == first, tuple(word[len(word) - head:])), word)
        return list(ends.values())

    def search(first, seconds):
        if len(first) == length:
            tail = first[length - head:]
            partners = [second for second in seconds if second[length - head:] == tail and second > first]
            return (first, min(partners)) if partners else None
        for cell in range(size):
            answer = search(first + [cell], beside(first + [cell], seconds))
            if answer:
                return answer
        return None

    answers = [search(start, [start]) for start in words(size, head)]
    return min([answer for answer in answers if answer], default=None)


class DiamondTableTest(unittest.TestCase):
    def check(self, one):
        expected = least_table(one)
        result = diamond_table(one)
        if any(s == t for s, t in expected):
            self.assertIsNone(result)
        else:
            self.assertEqual(result, sorted(expected))
            self.assertIs(is_diamond_table(one, result), True)
        return result is not None

    def test_examples(self):
        self.assertEqual(diamond_table(DIFFER), [])
        self.assertEqual(diamond_table(FIRST), [(0, 1)])
        self.assertEqual(diamond_table((2, 0, 2, [0, 1, 0, 1])), [])
        self.assertEqual(diamond_table(FIRST_OF_THREE), [(0, 1), (0, 2), (0, 3), (1, 2), (1, 3), (2, 3)])
        self.assertIsNone(diamond_table(BOTH))
        self.assertIsNone(diamond_table(RULE_110))

    def test_width_one(self):
        for size in [2, 3, 4]:
            self.assertEqual(diamond_table(shift_map(size, -5)), [])
            self.assertEqual(diamond_table((size, 0, 1, list(range(size))[::-1])), [])
            self.assertIsNone(diamond_table((size, 0, 1, [1] * size)))
        for table in tables(3, 1):
            self.assertEqual(diamond_table((3, 0, 1, table)), [] if len(set(table)) == 3 else None)

    def test_all_small_tables(self):
        answers = {}
        for size, width in [(2, 1), (2, 2), (2, 3), (3, 1), (4, 1)]:
            answers[size, width] = sum(self.check((size, 1, width, table)) for table in tables(size, width))
        self.assertEqual(answers, {(2, 1): 2, (2, 2): 6, (2, 3): 30, (3, 1): 6, (4, 1): 24})

    def test_random_maps(self):
        answers = [self.check(one) for one in some_maps(191, 500)]
        self.assertGreater(answers.count(True), 50)
        self.assertGreater(answers.count(False), 50)

    def test_every_size_and_width(self):
        rng = random.Random(192)
        for size, most in GREATEST.items():
            for width in range(1, most + 1):
                one = permuting_map(rng, size, width)
                self.assertEqual(diamond_table(one), [])
                turned = mirrored(one)
                self.assertIs(self.check(turned), True)
                self.assertIsNone(diamond_table((size, 0, width, [0] * size ** width)))

    def test_all_pairs(self):
        # The first cell of a window of w cells: any two states differ within w - 1 steps.
        for size, most in GREATEST.items():
            first = (size, 0, most, [cell for cell in range(size) for _ in range(size ** (most - 1))])
            states = size ** (most - 1)
            self.assertEqual(diamond_table(first), list(combinations(range(states), 2)))

    def test_too_many_states(self):
        for size, most in GREATEST.items():
            for width in [most + 1, most + 2]:
                for table in [[0] * size ** width, list(range(size)) * size ** (width - 1)]:
                    with self.assertRaises(TooLong):
                        diamond_table((size, 0, width, table))
        # The width counts as it is passed, not that of the reduced map.
        with self.assertRaises(TooLong):
            diamond_table(widened(DIFFER, 3, 4))
        self.assertEqual(len(widened(DIFFER, 3, 3)[3]), 256)
        self.assertIsNotNone(diamond_table(widened(DIFFER, 3, 3)))


class IsDiamondTableTest(unittest.TestCase):
    def expect(self, one, table, answer):
        self.assertIs(is_diamond_table(one, table), answer, (one, table))

    def test_examples(self):
        self.expect(DIFFER, [], True)
        self.expect(FIRST, [(0, 1)], True)
        self.expect(FIRST, [], False)
        self.expect(BOTH, [], False)
        self.expect(BOTH, [(0, 1)], False)

    def test_the_empty_list(self):
        for one in some_maps(193, 200):
            self.expect(one, [], diamond_table(one) == [])
        for size in [2, 3, 4]:
            self.expect((size, 0, 1, list(range(size))), [], True)
            self.expect((size, 0, 1, [0] * size), [], False)

    def test_a_pair_left_out(self):
        found = 0
        for one in [FIRST, FIRST_OF_THREE] + [mirrored(one) for one in some_maps(194, 100)]:
            table = diamond_table(one)
            for place in range(len(table or [])):
                found += 1
                self.expect(one, table[:place] + table[place + 1:], False)
        self.assertGreater(found, 100)

    def test_a_pair_twice(self):
        for one in [FIRST, FIRST_OF_THREE]:
            table = diamond_table(one)
            for pair in table:
                self.expect(one, sorted(table + [pair]), False)
                self.expect(one, table + [pair], False)

    def test_a_pair_turned(self):
        for one in [FIRST, FIRST_OF_THREE]:
            table = diamond_table(one)
            for place, (s, t) in enumerate(table):
                self.expect(one, table[:place] + [(t, s)] + table[place + 1:], False)
                self.expect(one, sorted(table[:place] + [(t, s)] + table[place + 1:]), False)
                self.expect(one, sorted(table + [(t, s)]), False)
        self.expect(DIFFER, [(1, 0)], False)

    def test_a_pair_of_equal_states(self):
        for one in [DIFFER, FIRST, FIRST_OF_THREE]:
            table = diamond_table(one)
            for state in range(len(one[3]) // 2):
                self.expect(one, sorted(table + [(state, state)]), False)
                self.expect(one, [(state, state)], False)
        # With pairs of equal states these lists would be closed.
        self.expect((2, 0, 1, [0, 0]), [(0, 0)], False)
        self.expect(BOTH, [(0, 0), (0, 1), (1, 1)], False)
        self.expect(BOTH, [(0, 0), (0, 1), (1, 0), (1, 1)], False)

    def test_states_out_of_range(self):
        for state in [2, 3, 4, 150, 10 ** 20]:
            self.expect(FIRST, [(0, 1), (0, state)], False)
            self.expect(FIRST, [(0, 1), (1, state)], False)
            self.expect(DIFFER, [(1, state)], False)
            self.expect(DIFFER, [(state, state + 1)], False)
            self.expect(shift_map(2, 0), [(0, state)], False)
        for state in [-1, -2, -150, -10 ** 20]:
            self.expect(FIRST, [(state, 0), (0, 1)], False)
            self.expect(FIRST, [(state, 1), (0, 1)], False)
            self.expect(DIFFER, [(state, 0)], False)
            self.expect(DIFFER, [(state - 1, state)], False)
        self.expect(shift_map(2, 0), [(0, 1)], False)
        self.expect(shift_map(2, 0), [(-1, 0)], False)

    def test_another_order(self):
        rng = random.Random(195)
        table = diamond_table(FIRST_OF_THREE)
        for _ in range(20):
            mixed = rng.sample(table, len(table))
            self.expect(FIRST_OF_THREE, mixed, mixed == table)
        for place in range(len(table) - 1):
            mixed = list(table)
            mixed[place], mixed[place + 1] = mixed[place + 1], mixed[place]
            self.expect(FIRST_OF_THREE, mixed, False)
        self.expect(FIRST_OF_THREE, table[::-1], False)

    def test_further_pairs(self):
        # No pair of this map leads to another one with equal cells, except to one in the list.
        self.expect(DIFFER, [(0, 1)], True)
        last = (2, 0, 3, [0, 1] * 4)
        self.assertEqual(diamond_table(last), [])
        self.expect(last, [(0, 1)], False)
        self.expect(last, [(0, 2)], False)

    def test_all_lists_of_pairs(self):
        answers = []
        rng = random.Random(196)
        maps = [(2, 0, 2, table) for table in tables(2, 2)]
        maps += [permuting_map(rng, 2, 3) for _ in range(6)] + [mirrored(permuting_map(rng, 2, 3)) for _ in range(6)]
        maps += [random_map(rng, 3, 2) for _ in range(3)] + [permuting_map(rng, 3, 2) for _ in range(6)]
        for one in maps:
            states = one[0] ** (one[2] - 1)
            pairs = list(combinations(range(states), 2))
            for chosen in range(2 ** len(pairs)):
                table = [pair for at, pair in enumerate(pairs) if chosen >> at & 1]
                found = set()
                for s, t in table + [(state, state) for state in range(states)]:
                    found |= pairs_found(one, s, t)
                answers.append(found <= set(table))
                self.expect(one, table, answers[-1])
        self.assertGreater(answers.count(True), 30)
        self.assertGreater(answers.count(False), 30)

    def test_too_many_states(self):
        for size, most in GREATEST.items():
            width = most + 1
            for cells in [[0] * size ** width, list(range(size)) * size ** (width - 1)]:
                for table in [[], [(0, 1)], [(1, 0)], [(0, 0)], [(-1, 10 ** 20)], [(5, 6), (1, 2)]]:
                    with self.assertRaises(TooLong):
                        is_diamond_table((size, 0, width, cells), table)
            one = (size, 0, most, list(range(size)) * size ** (most - 1))
            self.expect(one, [], True)
            self.expect(one, [(0, size ** (most - 1))], False)


class IsDiamondTest(unittest.TestCase):
    def expect(self, one, first, second, answer):
        self.assertIs(is_diamond(one, first, second), answer, (one, first, second))

    def test_examples(self):
        self.expect(BOTH, [0, 0, 0], [0, 1, 0], True)
        self.expect(BOTH, [0, 1, 0], [0, 0, 0], False)
        self.expect(BOTH, [1, 0, 0, 1], [1, 0, 1, 1], False)
        self.expect(BOTH, [1, 0, 0, 0, 1], [1, 0, 1, 0, 1], True)
        self.expect(DIFFER, [0, 0, 0], [0, 1, 0], False)
        self.expect((2, 0, 1, [1, 1]), [0], [1], True)
        self.expect((2, 0, 1, [1, 1]), [1], [0], False)
        self.expect((2, 0, 1, [1, 1]), [0, 1, 0], [0, 1, 1], True)
        self.expect((2, 0, 1, [1, 1]), [0, 1, 0], [1, 0, 1], True)
        self.expect((2, 0, 1, [1, 0]), [0], [1], False)

    def test_empty_and_equal_words(self):
        for one in [(2, 0, 1, [1, 1]), DIFFER, BOTH, RULE_110, (2, 0, 3, [0] * 8)]:
            self.expect(one, [], [], False)
            for length in range(1, 6):
                for word in words(2, length):
                    self.expect(one, word, word, False)
                    self.expect(one, word, list(word), False)
                    self.expect(one, [], word, False)
                    self.expect(one, word, [], False)

    def test_different_lengths(self):
        zero = (2, 0, 2, [0, 0, 0, 0])
        self.expect(zero, [0, 0, 0], [0, 1, 0], True)
        self.expect(zero, [0, 0, 0], [0, 1, 0, 0], False)
        self.expect(zero, [0, 0, 0], [0, 0, 0, 0], False)
        self.expect(zero, [0, 0, 0, 0], [0, 1, 0], False)
        self.expect((2, 0, 1, [1, 1]), [0], [1, 1], False)
        self.expect((2, 0, 1, [1, 1]), [0, 0], [1], False)

    def test_too_short(self):
        for width in [2, 3, 4]:
            zero = (2, 0, width, [0] * 2 ** width)
            for length in range(2 * width - 1):
                for first, second in combinations(words(2, length), 2):
                    self.expect(zero, first, second, False)
            head = [0] * (width - 1)
            self.expect(zero, head + [0] + head, head + [1] + head, True)
            self.expect(zero, [0] + head + head, [1] + head + head, False)
            self.expect(zero, head + head + [0], head + head + [1], False)

    def test_all_short_words(self):
        answers = []
        for one in list(some_maps(197, 25)) + [RULE_110, BOTH, (3, 0, 1, [0, 1, 0]), (4, 0, 1, [0, 0, 1, 1])]:
            size, _, width, _ = one
            head = width - 1
            for length in range(6 if size == 2 else 4):
                for first in words(size, length):
                    for second in words(size, length):
                        answer = (
                            length >= 2 * width - 1
                            and first < second
                            and first[:head] == second[:head]
                            and first[length - head:] == second[length - head:]
                            and apply_word(one, first) == apply_word(one, second)
                        )
                        self.expect(one, first, second, answer)
                        answers.append(answer)
        self.assertGreater(answers.count(True), 100)

    def test_longer_than_the_least_diamond(self):
        rng = random.Random(198)
        checked = 0
        for one in some_maps(199, 200):
            diamond = least_diamond(one)
            if diamond is None:
                continue
            checked += 1
            for length in [1, 2, 50]:
                before = [rng.randrange(one[0]) for _ in range(length)]
                behind = [rng.randrange(one[0]) for _ in range(length)]
                first, second = [before + word + behind for word in diamond]
                self.expect(one, first, second, True)
                self.expect(one, second, first, False)
                self.expect(one, first, second + [0], False)
                self.expect(one, first + [0], second + [0], True)
                self.expect(one, first + [0], second + [1], one[2] == 1 and one[3][0] == one[3][1])
        self.assertGreater(checked, 50)

    def test_a_cell_changed(self):
        for one in [BOTH, RULE_110] + list(some_maps(200, 40)):
            diamond = least_diamond(one)
            if diamond is None:
                continue
            first, second = diamond
            for place in range(len(first)):
                for cell in range(one[0]):
                    changed = first[:place] + [cell] + first[place + 1:]
                    self.check_by_the_point(one, changed, second)
                    changed = second[:place] + [cell] + second[place + 1:]
                    self.check_by_the_point(one, first, changed)

    def check_by_the_point(self, one, first, second):
        head = one[2] - 1
        tail = len(first) - head
        answer = (
            first[:head] == second[:head]
            and first[tail:] == second[tail:]
            and first < second
            and apply_word(one, first) == apply_word(one, second)
        )
        self.expect(one, first, second, answer)

    def test_what_is_no_cell(self):
        zero = (2, 0, 2, [0, 0, 0, 0])
        for cell in [-1, 2, 3, 10 ** 20]:
            self.expect(zero, sorted([0, cell]) + [0], [0, 1, 0], False)
            self.expect(zero, [0, 0, 0], [0, cell, 0], False)
            self.expect((2, 0, 1, [1, 1]), [0], [cell], False)
            self.expect((2, 0, 1, [1, 1]), [cell], [1], False)

    def test_is_never_refused(self):
        for size, width in [(2, 12), (3, 7), (4, 6)]:
            head = [1] * (width - 1)
            zero = (size, 0, width, [0] * size ** width)
            self.expect(zero, head + [0] + head, head + [1] + head, True)
            last = (size, 0, width, list(range(size)) * size ** (width - 1))
            self.expect(last, head + [0] + head, head + [1] + head, False)


class LeastDiamondTest(unittest.TestCase):
    def test_examples(self):
        self.assertEqual(least_diamond(BOTH), ([0, 0, 0], [0, 1, 0]))
        self.assertIsNone(least_diamond(DIFFER))
        self.assertIsNone(least_diamond(FIRST))
        self.assertEqual(least_diamond((2, 0, 2, [0] * 4)), ([0, 0, 0], [0, 1, 0]))
        self.assertEqual(least_diamond((3, 0, 3, [2] * 27)), ([0] * 5, [0, 0, 1, 0, 0]))

    def test_width_one(self):
        self.assertEqual(least_diamond((2, 0, 1, [1, 1])), ([0], [1]))
        self.assertEqual(least_diamond((3, 0, 1, [0, 1, 0])), ([0], [2]))
        self.assertEqual(least_diamond((4, 0, 1, [0, 1, 2, 1])), ([1], [3]))
        self.assertEqual(least_diamond((4, 0, 1, [3, 1, 1, 3])), ([0], [3]))
        self.assertEqual(least_diamond((4, 0, 1, [3, 1, 1, 1])), ([1], [2]))
        self.assertIsNone(least_diamond((4, 0, 1, [3, 1, 2, 0])))

    def test_all_small_tables(self):
        for size, width, longest in [(2, 1, 3), (2, 2, 6), (2, 3, 8), (3, 1, 2), (4, 1, 2)]:
            for table in tables(size, width):
                one = (size, 2, width, table)
                result = least_diamond(one)
                if result is None:
                    self.assertIsNotNone(diamond_table(one))
                else:
                    self.assertEqual(result, least_diamond_of(one, longest), one)

    def test_random_maps(self):
        checked = 0
        longest = {(2, 4): 8, (3, 2): 4, (4, 2): 3}
        for one in some_maps(201, 300):
            result = least_diamond(one)
            self.assertEqual(result is None, diamond_table(one) is not None)
            most = longest.get(one[:1] + one[2:3], 3)
            if result is not None and len(result[0]) <= most:
                checked += 1
                self.assertEqual(result, least_diamond_of(one, most), one)
        self.assertGreater(checked, 50)

    def test_longer_diamonds(self):
        rng = random.Random(202)
        lengths = {}
        for _ in range(400):
            size, width = rng.choice([(2, 4), (2, 5), (3, 3)])
            one = nearly_permuting_map(rng, size, width)
            one = rng.choice([one, mirrored(one)])
            result = least_diamond(one)
            if result is None:
                continue
            length = len(result[0])
            self.assertIs(is_diamond(one, *result), True)
            lengths[length - 2 * width + 1] = True
            for shorter in range(2 * width - 1, length):
                self.assertIsNone(diamond_of_length(one, shorter))
            self.assertEqual(result, diamond_of_length(one, length), one)
        self.assertGreaterEqual(len(lengths), 3)

    def test_too_many_states(self):
        for size, most in GREATEST.items():
            for width in [most + 1, most + 2]:
                for table in [[0] * size ** width, list(range(size)) * size ** (width - 1)]:
                    with self.assertRaises(TooLong):
                        least_diamond((size, 0, width, table))
            head = [0] * (most - 1)
            result = least_diamond((size, 0, most, [0] * size ** most))
            self.assertEqual(result, (head + [0] + head, head + [1] + head))
            self.assertIsNone(least_diamond((size, 0, most, list(range(size)) * size ** (most - 1))))

    def test_the_width_is_that_of_the_map_as_it_is_passed(self):
        self.assertEqual(least_diamond(widened(BOTH, 0, 1)), ([0] * 5, [0, 0, 1, 0, 0]))
        self.assertEqual(least_diamond(widened(BOTH, 1, 0)), ([0] * 5, [0, 0, 1, 0, 0]))
        with self.assertRaises(TooLong):
            least_diamond(widened(BOTH, 3, 4))


class DecideFiniteTest(unittest.TestCase):
    def test_examples(self):
        self.assertEqual(decide_finite(DIFFER), ("yes", []))
        self.assertEqual(decide_finite(FIRST), ("yes", [(0, 1)]))
        self.assertEqual(decide_finite(BOTH), ("no", [0, 0, 0], [0, 1, 0]))
        self.assertEqual(decide_finite((2, 0, 1, [1, 1])), ("no", [0], [1]))
        self.assertEqual(decide_finite(shift_map(4, 100)), ("yes", []))

    def test_is_the_table_or_the_least_diamond(self):
        for one in some_maps(203, 300):
            table = diamond_table(one)
            if table is None:
                self.assertEqual(decide_finite(one), ("no",) + least_diamond(one))
            else:
                self.assertEqual(decide_finite(one), ("yes", table))
                self.assertIsNone(least_diamond(one))

    def test_agrees_with_decide_reach(self):
        answers = []
        for size, width in [(2, 1), (2, 2), (2, 3), (3, 1), (4, 1)]:
            for table in tables(size, width):
                one = (size, 0, width, table)
                self.assertEqual(decide_finite(one)[0], decide_reach(one)[0])
        for one in some_maps(204, 500):
            answers.append(decide_finite(one)[0])
            self.assertEqual(decide_reach(one)[0], answers[-1])
        self.assertGreater(answers.count("no"), 50)
        self.assertGreater(answers.count("yes"), 50)

    def test_great_maps(self):
        rng = random.Random(205)
        answers = []
        for size, most in GREATEST.items():
            for _ in range(5):
                one = nearly_permuting_map(rng, size, most)
                answer = decide_finite(one)
                answers.append(answer[0])
                if answer[0] == "no":
                    self.assertIs(is_diamond(one, *answer[1:]), True)
                else:
                    self.assertIs(is_diamond_table(one, answer[1]), True)
        self.assertIn("no", answers)

    def test_too_many_states(self):
        for size, most in GREATEST.items():
            for table in [[0] * size ** (most + 1), list(range(size)) * size ** most]:
                with self.assertRaises(TooLong):
                    decide_finite((size, 0, most + 1, table))

    def test_offsets_do_not_matter(self):
        for offset in [-100, -3, 0, 100]:
            self.assertEqual(decide_finite((2, offset, 2, BOTH[3])), decide_finite(BOTH))
            self.assertEqual(decide_finite((2, offset, 2, FIRST[3])), decide_finite(FIRST))


if __name__ == "__main__":
    unittest.main()

"""Points 23 to 25: measures, sums over round rows, flows and normal forms."""

import random
import unittest

from edenrow.errors import OutOfRange, TooLong
from edenrow.maps import apply_word
from edenrow.sums import flow_of, is_flow, kept_sums, normal_form, sum_over
from tests.reference import is_kept, number_of, random_map, round_rows, sum_of, words
from tests.reversible import reversible_map

DIFFER = (2, 0, 2, [0, 1, 1, 0])
KEEP = (2, 0, 1, [0, 1])
TRAFFIC = (2, -1, 3, [0, 0, 0, 1, 1, 1, 0, 1])
# The lengths of lists that are no measure.
WRONG = {2: [0, 1, 3, 5, 6, 7, 9, 12, 1000], 3: [0, 1, 2, 4, 6, 8, 10, 12, 26], 4: [0, 1, 2, 3, 5, 8, 15, 32, 128]}


def random_measure(rng, size, length, furthest=9):
    return [rng.randint(-furthest, furthest) for _ in range(size ** length)]


def trivial_measure(rng, size, length):
    """The value of a block is that of its last cells minus that of its first ones."""
    parts = random_measure(rng, size, length - 1)
    measure = []
    for word in words(size, length):
        measure.append(parts[number_of(size, word[1:])] - parts[number_of(size, word[:-1])])
    return measure


def plus(first, second):
    return [a + b for a, b in zip(first, second)]


def obeys(one, measure, length, flow):
    """Whether a list is a flow, word by word."""
    size, _, width, _ = one
    if len(flow) != size ** (length + width - 2):
        return False
    for word in words(size, length + width - 1):
        change = measure[number_of(size, apply_word(one, word))] - measure[number_of(size, word[:length])]
        step = flow[number_of(size, word[1:])] - flow[number_of(size, word[:-1])]
        if change != step:
            return False
    return True


def kept_measure(rng, one, length):
    """A sum of kept sums and a trivial measure."""
    measure = trivial_measure(rng, one[0], length)
    for row in kept_sums(one, length):
        factor = rng.randint(-5, 5)
        measure = plus(measure, [factor * value for value in row])
    return measure


def some_maps(seed, many):
    """Maps and lengths of blocks with at most 512 words of both."""
    rng = random.Random(seed)
    for _ in range(many):
        size = rng.choice([2, 3, 4])
        most = {2: 9, 3: 5, 4: 4}[size]
        length = rng.randint(1, most)
        width = rng.randint(1, min(most + 1 - length, 4))
        if rng.random() < 0.5:
            yield random_map(rng, size, width), length
        else:
            one, _ = reversible_map(rng, size, 2)
            while one[2] > most:
                one, _ = reversible_map(rng, size, 2)
            yield one, rng.randint(1, most + 1 - one[2])


class SumOverTest(unittest.TestCase):
    def test_examples(self):
        self.assertEqual(sum_over(2, [0, 1], [0, 1, 1, 0, 1]), 3)
        self.assertEqual(sum_over(2, [5, 7], [0]), 5)
        self.assertEqual(sum_over(2, [0, 1, 0, 0], [0, 1, 1, 0, 1]), 2)
        self.assertEqual(sum_over(2, [0, 0, 1, 0], [0, 1, 1, 0, 1]), 2)
        self.assertEqual(sum_over(2, [0, 0, 1, 0], [1, 0]), 1)
        self.assertEqual(sum_over(3, [10, 20, -40], [2, 2, 0, 1]), -50)
        self.assertEqual(sum_over(4, list(range(16)), [3]), 15)
        self.assertEqual(sum_over(4, list(range(16)), [3, 1]), 13 + 7)

    def test_blocks_longer_than_the_row(self):
        # The row goes on round: the only block of eight cells of this row is 11111111.
        self.assertEqual(sum_over(2, list(range(256)), [1]), 255)
        self.assertEqual(sum_over(2, list(range(256)), [0, 1]), 85 + 170)
        self.assertEqual(sum_over(3, list(range(27)), [1, 2]), 9 + 6 + 1 + 18 + 3 + 2)

    def test_random_measures(self):
        rng = random.Random(231)
        for _ in range(300):
            size = rng.choice([2, 3, 4])
            length = rng.randint(1, 4)
            measure = random_measure(rng, size, length, 10 ** rng.choice([1, 30]))
            row = [rng.randrange(size) for _ in range(rng.choice([1, 2, 3, 5, 20]))]
            self.assertEqual(sum_over(size, measure, row), sum_of(size, measure, length, row))
            # A row twice after itself has twice as many blocks.
            self.assertEqual(sum_over(size, measure, row * 2), 2 * sum_over(size, measure, row))
            at = rng.randrange(len(row))
            self.assertEqual(sum_over(size, measure, row[at:] + row[:at]), sum_over(size, measure, row))

    def test_long_rows_and_measures(self):
        self.assertEqual(sum_over(2, [0, 1], [0, 1] * 10000), 10000)
        self.assertEqual(sum_over(2, [1] * 2 ** 16, [0, 1, 1]), 3)
        self.assertEqual(sum_over(4, [1] * 4 ** 7, [0]), 1)

    def test_refused(self):
        for size, lengths in WRONG.items():
            for length in lengths:
                for row in [[0], [1, 0, 1]]:
                    with self.assertRaises(OutOfRange):
                        sum_over(size, [1] * length, row)


class FlowTest(unittest.TestCase):
    def test_examples(self):
        self.assertEqual(flow_of(KEEP, [3, 5]), [0])
        self.assertEqual(flow_of((2, 0, 1, [1, 0]), [3, 3]), [0])
        self.assertIsNone(flow_of((2, 0, 1, [1, 0]), [3, 5]))
        # The traffic rule keeps the number of ones: each goes on by one place if there is no other one.
        flow = flow_of(TRAFFIC, [0, 1])
        self.assertEqual(flow, [0, 0, 0, 1])
        self.assertIs(obeys(TRAFFIC, [0, 1], 1, flow), True)
        self.assertIsNone(flow_of(DIFFER, [0, 1]))
        self.assertEqual(flow_of(DIFFER, [4, 4]), [0, 0])
        self.assertEqual(flow_of((2, 0, 2, [0, 1, 0, 1]), [0, 1]), [0, 1])

    def test_the_offset_does_not_matter(self):
        for offset in [-100, 0, 7, 100]:
            self.assertEqual(flow_of((2, offset, 3, TRAFFIC[3]), [0, 1]), [0, 0, 0, 1])

    def test_kept_measures(self):
        rng = random.Random(232)
        for one, length in some_maps(233, 150):
            measure = kept_measure(rng, one, length)
            flow = flow_of(one, measure)
            self.assertIsNotNone(flow)
            self.assertEqual(flow[0], 0)
            self.assertIs(obeys(one, measure, length, flow), True)
            self.assertIs(is_flow(one, measure, flow), True)

    def test_measures_that_are_kept_and_others(self):
        rng = random.Random(234)
        answers = []
        for _ in range(300):
            size, width, length = rng.choice([(2, 1, 1), (2, 1, 2), (2, 2, 1), (2, 2, 2), (2, 3, 1), (3, 1, 1)])
            one = random_map(rng, size, width)
            measure = kept_measure(rng, one, length)
            if rng.random() < 0.5:
                measure[rng.randrange(len(measure))] += rng.choice([-1, 1])
            # The words of a flow are at most so many, and so are the steps of a way round without repetition.
            kept = is_kept(one, measure, length, size ** (length + width - 2))
            flow = flow_of(one, measure)
            self.assertEqual(flow is not None, kept)
            answers.append(kept)
        self.assertGreater(answers.count(True), 100)
        self.assertGreater(answers.count(False), 50)

    def test_an_integer_of_a_flow_changed(self):
        rng = random.Random(235)
        for one, length in some_maps(236, 60):
            measure = kept_measure(rng, one, length)
            flow = flow_of(one, measure)
            for place in rng.sample(range(len(flow)), min(len(flow), 4)):
                changed = list(flow)
                changed[place] += rng.choice([-1, 1, 10 ** 20])
                # Where there is but one word, its integer may be any one.
                self.assertIs(is_flow(one, measure, changed), len(flow) == 1)
            self.assertIs(is_flow(one, measure, [value + 7 for value in flow]), True)
            self.assertIs(is_flow(one, measure, [value - 10 ** 20 for value in flow]), True)

    def test_flows_of_other_lengths(self):
        rng = random.Random(237)
        for one, length in some_maps(238, 60):
            measure = kept_measure(rng, one, length)
            flow = flow_of(one, measure)
            for other in [[], flow[:-1], flow + [0], flow * one[0], flow * 2, [0] * (len(flow) + 1)]:
                self.assertIs(is_flow(one, measure, other), False)
        self.assertIs(is_flow(KEEP, [3, 5], [7]), True)
        self.assertIs(is_flow(KEEP, [3, 5], []), False)
        self.assertIs(is_flow(KEEP, [3, 5], [0, 0]), False)
        self.assertIs(is_flow((2, 0, 1, [1, 0]), [3, 5], [0]), False)

    def test_all_small_flows(self):
        rng = random.Random(239)
        answers = []
        for _ in range(200):
            one = random_map(rng, 2, rng.choice([1, 2]))
            measure = rng.choice([[0, 0], [1, 1], [0, 1], [1, 0], [-1, 1]])
            for flow in words(3, one[2]):
                answers.append(obeys(one, measure, 1, flow))
                self.assertIs(is_flow(one, measure, flow), answers[-1])
        self.assertIn(True, answers)
        self.assertIn(False, answers)

    def test_a_measure_that_is_not_kept_has_no_flow(self):
        rng = random.Random(240)
        for _ in range(100):
            flow = [rng.randint(-2, 2) for _ in range(4)]
            self.assertIs(is_flow((2, 0, 3, [0, 0, 0, 1, 0, 1, 1, 1]), [0, 1], flow), False)

    def test_wrong_lengths_come_first(self):
        wide = (2, 0, 12, [0] * 4096)
        for one in [DIFFER, wide, (3, 0, 7, [0] * 2187), (4, 0, 6, [0] * 4096)]:
            for length in WRONG[one[0]] + [100000]:
                with self.assertRaises(OutOfRange):
                    flow_of(one, [0] * length)
                with self.assertRaises(OutOfRange):
                    is_flow(one, [0] * length, [0])

    def test_refused_above_65536_words(self):
        for size, width, length in [(2, 12, 5), (2, 1, 16), (2, 2, 15), (3, 7, 4), (3, 1, 10), (4, 6, 3), (4, 1, 8)]:
            one = (size, 0, width, list(range(size)) * size ** (width - 1))
            many = size ** length
            flow = flow_of(one, [3] * many)
            self.assertEqual(flow, [0] * size ** (length + width - 2))
            self.assertIs(is_flow(one, [3] * many, flow), True)
            changed = [3] * (many - 1) + [4]
            self.assertEqual(flow_of(one, changed) is None, False)
            for measure in [[3] * many * size, [3] * (many * size - 1) + [4]]:
                with self.assertRaises(TooLong):
                    flow_of(one, measure)
                for other in [[], [0], flow, [0] * size ** (length + width - 1)]:
                    with self.assertRaises(TooLong):
                        is_flow(one, measure, other)


class NormalFormTest(unittest.TestCase):
    def check(self, size, measure, length):
        result = normal_form(size, measure)
        self.assertEqual(len(result), len(measure))
        for block in words(size, length):
            if block[0] == 0 and any(block):
                self.assertEqual(result[number_of(size, block)], 0)
        return result

    def test_examples(self):
        self.assertEqual(normal_form(2, [4, 5]), [4, 5])
        # The second cell of a block of two, and the first one, have the same sums.
        self.assertEqual(normal_form(2, [0, 1, 0, 1]), [0, 0, 1, 1])
        self.assertEqual(normal_form(2, [0, 0, 1, 1]), [0, 0, 1, 1])
        self.assertEqual(normal_form(2, [0, 1, -1, 0]), [0, 0, 0, 0])
        self.assertEqual(normal_form(2, [1, 1, 1, 1]), [1, 0, 2, 1])
        self.assertEqual(normal_form(3, [7, 8, 9]), [7, 8, 9])

    def test_sums_stay(self):
        rng = random.Random(241)
        for size, length, longest in [(2, 1, 5), (2, 2, 7), (2, 3, 7), (2, 4, 8), (3, 2, 5), (3, 3, 5), (4, 2, 4)]:
            for _ in range(4):
                measure = random_measure(rng, size, length)
                result = self.check(size, measure, length)
                for row in round_rows(size, longest):
                    expected = sum_of(size, measure, length, row)
                    self.assertEqual(sum_of(size, result, length, row), expected)

    def test_there_is_only_one(self):
        rng = random.Random(242)
        for _ in range(100):
            size = rng.choice([2, 3, 4])
            length = rng.randint(1, 4)
            measure = random_measure(rng, size, length)
            result = self.check(size, measure, length)
            self.assertEqual(normal_form(size, result), result)
            trivial = trivial_measure(rng, size, length)
            self.assertEqual(normal_form(size, trivial), [0] * len(trivial))
            self.assertEqual(normal_form(size, plus(measure, trivial)), result)

    def test_kept_exactly_if_the_normal_form_is(self):
        rng = random.Random(243)
        for one, length in some_maps(244, 100):
            measure = kept_measure(rng, one, length)
            if rng.random() < 0.5:
                measure[rng.randrange(len(measure))] += 1
            kept = flow_of(one, measure) is not None
            self.assertEqual(flow_of(one, normal_form(one[0], measure)) is not None, kept)

    def test_great_integers_and_measures(self):
        result = normal_form(2, [0, 10 ** 40, -10 ** 40, 1])
        self.assertEqual(result, [0, 0, 0, 1])
        self.check(2, list(range(2 ** 12)), 12)
        self.check(4, list(range(4 ** 6)), 6)

    def test_refused(self):
        for size, lengths in WRONG.items():
            for length in lengths:
                with self.assertRaises(OutOfRange):
                    normal_form(size, [1] * length)


if __name__ == "__main__":
    unittest.main()

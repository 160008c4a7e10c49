"""Point 26: the kept sums of a map in echelon form, and where they are refused."""

import random
import unittest
from fractions import Fraction
from math import gcd

from edenrow.errors import OutOfRange, TooLong
from edenrow.maps import apply_word, composed, shift_map
from edenrow.sums import flow_of, kept_sums, normal_form
from tests.reference import blocks_of, is_kept, number_of, random_map, round_image_of, round_rows, tables
from tests.reference import widened, words
from tests.reversible import HALVES, TURN_THREE, TURN_TWO, reversible_map

DIFFER = (2, 0, 2, [0, 1, 1, 0])
KEEP = (2, 0, 1, [0, 1])
TURN = (2, 0, 1, [1, 0])
TRAFFIC = (2, -1, 3, [0, 0, 0, 1, 1, 1, 0, 1])
# The greatest numbers of cells of words that are not refused.
MOST = {2: 9, 3: 5, 4: 4}
PRIME = 2 ** 61 - 1


def some_maps(seed, many):
    rng = random.Random(seed)
    for _ in range(many):
        size = rng.choice([2, 3, 4])
        if rng.random() < 0.5:
            one = random_map(rng, size, rng.randint(1, MOST[size] - 1))
        else:
            one, _ = reversible_map(rng, size, 3)
        if one[2] <= MOST[size]:
            yield one, rng.randint(1, MOST[size] + 1 - one[2])


def normal_blocks(size, length):
    """The numbers of the blocks to which a normal measure may give a value."""
    return [0] + list(range(size ** (length - 1), size ** length))


def conditions_of_rows(one, length, longest):
    """For each short round row, how much more often each block is in its image than in itself."""
    size = one[0]
    found = []
    for row in round_rows(size, longest):
        counts = [0] * size ** length
        for block in blocks_of(round_image_of(one, row), length):
            counts[number_of(size, block)] += 1
        for block in blocks_of(row, length):
            counts[number_of(size, block)] -= 1
        found.append([counts[number] for number in normal_blocks(size, length)])
    return found


def reduced_rows(rows, many):
    """The reduced echelon form of rows of fractions."""
    rows = [[Fraction(value) for value in row] for row in rows]
    done = []
    for place in range(many):
        first = next((row for row in rows if row[place]), None)
        if first is None:
            continue
        rows.remove(first)
        first = [value / first[place] for value in first]
        rows = [[a - row[place] * b for a, b in zip(row, first)] for row in rows]
        done = [[a - row[place] * b for a, b in zip(row, first)] for row in done] + [first]
        rows = [row for row in rows if any(row)]
    return done


def solutions(rows, many):
    """The reduced echelon form of all that solves the conditions, by fractions."""
    done = reduced_rows(rows, many)
    leading = [next(place for place in range(many) if row[place]) for row in done]
    found = []
    for place in range(many):
        if place not in leading:
            solution = [Fraction(0)] * many
            solution[place] = Fraction(1)
            for row, first in zip(done, leading):
                solution[first] = -row[place]
            found.append(solution)
    return reduced_rows(found, many)


def whole(row):
    """A row of fractions as integers without a common divisor."""
    common = 1
    for value in row:
        common = common * value.denominator // gcd(common, value.denominator)
    values = [int(value * common) for value in row]
    divisor = gcd(*values)
    return [value // divisor for value in values]


def kept_sums_of(one, length, longest):
    """The kept sums, from the sums over all short round rows."""
    size = one[0]
    numbers = normal_blocks(size, length)
    found = []
    for solution in solutions(conditions_of_rows(one, length, longest), len(numbers)):
        row = [0] * size ** length
        for number, value in zip(numbers, whole(solution)):
            row[number] = value
        found.append(row)
    return found


def count_by_flows(one, length):
    """The number of kept sums: the measures and flows that belong together, modulo a great prime."""
    size, _, width, _ = one
    numbers = {number: at for at, number in enumerate(normal_blocks(size, length))}
    many = len(numbers) + size ** (length + width - 2) - 1
    pivots = {}
    for word in words(size, length + width - 1):
        row = {}
        parts = [(numbers.get(number_of(size, apply_word(one, word))), 1)]
        parts.append((numbers.get(number_of(size, word[:length])), -1))
        # The word of zeros has the integer 0 in the flow.
        for part, sign in [(word[1:], -1), (word[:-1], 1)]:
            if any(part):
                parts.append((len(numbers) + number_of(size, part) - 1, sign))
        for place, sign in parts:
            if place is not None:
                row[place] = row.get(place, 0) + sign
        row = {place: value for place, value in row.items() if value}
        while row:
            last = max(row)
            if last not in pivots:
                back = pow(row[last], -1, PRIME)
                pivots[last] = {place: value * back % PRIME for place, value in row.items()}
                break
            factor = row[last]
            for place, value in pivots[last].items():
                row[place] = (row.get(place, 0) - factor * value) % PRIME
            row = {place: value for place, value in row.items() if value}
    return many - len(pivots)


class KeptSumsTest(unittest.TestCase):
    def check_form(self, one, length):
        """Look at each row, and return all."""
        size = one[0]
        result = kept_sums(one, length)
        leading = []
        for row in result:
            self.assertEqual(len(row), size ** length)
            leading.append(next(place for place, value in enumerate(row) if value))
            self.assertGreater(row[leading[-1]], 0)
            self.assertEqual(gcd(*row), 1)
            self.assertEqual(normal_form(size, row), row)
            self.assertIsNotNone(flow_of(one, row))
        self.assertEqual(leading, sorted(set(leading)))
        for at, row in enumerate(result):
            for other, place in enumerate(leading):
                self.assertEqual(row[place] != 0, at == other)
        return result

    def test_examples(self):
        self.assertEqual(kept_sums(KEEP, 1), [[1, 0], [0, 1]])
        self.assertEqual(kept_sums(TURN, 1), [[1, 1]])
        self.assertEqual(kept_sums(DIFFER, 1), [[1, 1]])
        self.assertEqual(kept_sums(TRAFFIC, 1), [[1, 0], [0, 1]])
        self.assertEqual(kept_sums(KEEP, 2), [[1, 0, 0, 0], [0, 0, 1, 0], [0, 0, 0, 1]])
        self.assertEqual(kept_sums((2, 0, 1, [1, 1]), 2), [[1, 0, 2, 1]])
        self.assertEqual(kept_sums((3, 0, 1, [0, 2, 1]), 1), [[1, 0, 0], [0, 1, 1]])
        self.assertEqual(kept_sums((4, 0, 1, [1, 2, 3, 0]), 1), [[1, 1, 1, 1]])

    def test_maps_that_only_move_rows_keep_all_sums(self):
        for size in [2, 3, 4]:
            for length in range(1, MOST[size] + 1):
                numbers = normal_blocks(size, length)
                expected = []
                for number in numbers:
                    row = [0] * size ** length
                    row[number] = 1
                    expected.append(row)
                for places in [0, 1, -100]:
                    self.assertEqual(kept_sums(shift_map(size, places), length), expected)

    def test_small_maps_by_round_rows(self):
        for size, width, length in [(2, 1, 1), (2, 1, 2), (2, 2, 1), (2, 2, 2), (2, 1, 3), (3, 1, 1), (3, 1, 2)]:
            longest = size ** (length + width - 2)
            for table in tables(size, width):
                one = (size, 1, width, table)
                self.assertEqual(self.check_form(one, length), kept_sums_of(one, length, longest))

    def test_elementary_rules_by_round_rows(self):
        rng = random.Random(251)
        counts = {}
        for rule in range(256):
            one = (2, -1, 3, [rule >> number & 1 for number in range(8)])
            result = self.check_form(one, 1)
            counts[len(result)] = counts.get(len(result), 0) + 1
            self.assertEqual(result, kept_sums_of(one, 1, 4))
            if rng.random() < 0.05:
                self.assertEqual(self.check_form(one, 2), kept_sums_of(one, 2, 8))
        # Five rules keep the number of ones.
        self.assertEqual(counts, {1: 251, 2: 5})

    def test_as_many_as_flows_allow(self):
        for one, length in some_maps(252, 120):
            self.assertEqual(len(self.check_form(one, length)), count_by_flows(one, length), (one, length))

    def test_maps_that_keep_many_sums(self):
        counts = {}
        for one in [TURN_TWO, TURN_THREE, HALVES, composed(HALVES, (4, 0, 1, [3, 1, 2, 0]))]:
            for length in range(1, MOST[one[0]] + 2 - one[2]):
                result = self.check_form(one, length)
                self.assertEqual(len(result), count_by_flows(one, length))
                counts[len(result)] = True
        self.assertGreater(max(counts), 10)

    def test_sums_of_fractions(self):
        rng = random.Random(253)
        for one, length in some_maps(254, 60):
            result = kept_sums(one, length)
            factors = [Fraction(rng.randint(-9, 9), rng.randint(1, 9)) for _ in result]
            measure = [sum(factor * row[at] for factor, row in zip(factors, result)) for at in range(len(result[0]))]
            self.assertIsNotNone(flow_of(one, whole(measure) if any(measure) else result[0]))

    def test_the_number_of_cells_is_always_kept(self):
        for one, length in some_maps(255, 60):
            ones = normal_form(one[0], [1] * one[0] ** length)
            result = kept_sums(one, length)
            # It is the sum of the rows by the integers at their leading places.
            leading = [next(place for place, value in enumerate(row) if value) for row in result]
            total = [Fraction(0)] * len(ones)
            for row, place in zip(result, leading):
                factor = Fraction(ones[place], row[place])
                total = [a + factor * b for a, b in zip(total, row)]
            self.assertEqual(total, ones)

    def test_rows_are_kept_by_round_rows(self):
        for one, length in some_maps(256, 40):
            for row in kept_sums(one, length)[:3]:
                self.assertIs(is_kept(one, row, length, {2: 7, 3: 4, 4: 3}[one[0]]), True)

    def test_the_greatest_ones(self):
        rng = random.Random(257)
        for size, most in MOST.items():
            for width in range(1, most + 1):
                for one in [random_map(rng, size, width), (size, 0, width, [1] * size ** width)]:
                    length = most + 1 - width
                    self.assertEqual(len(self.check_form(one, length)), count_by_flows(one, length))

    def test_refused(self):
        for size, most in MOST.items():
            for width in range(1, most + 3):
                if size ** width <= 4096:
                    one = (size, 0, width, list(range(size)) * size ** (width - 1))
                    for length in [max(most + 2 - width, 1), most + 5, 1000, 10 ** 30]:
                        with self.assertRaises(TooLong):
                            kept_sums(one, length)
        # The width is that of the map as it is passed.
        self.assertEqual(len(kept_sums(widened(KEEP, 0, 2), 7)), 65)
        with self.assertRaises(TooLong):
            kept_sums(widened(KEEP, 0, 3), 7)

    def test_the_length_is_looked_at_first(self):
        for one in [KEEP, DIFFER, (2, 0, 12, [0] * 4096), (4, 0, 6, [0] * 4096)]:
            for length in [0, -1, -10 ** 30]:
                with self.assertRaises(OutOfRange):
                    kept_sums(one, length)


if __name__ == "__main__":
    unittest.main()

"""Point 7: round rows."""

import random
import unittest

from edenrow.maps import composed, shift_map
from edenrow.rows import round_cell, round_image, round_simple
from tests.reference import random_map, round_image_of, tables, words

DIFFER = [0, 1, 1, 0]


def simple_by_definition(row):
    length = len(row)
    for period in range(1, length + 1):
        if length % period == 0 and all(row[at] == row[at % period] for at in range(length)):
            return row[:period]


class RoundImageTest(unittest.TestCase):
    def test_examples(self):
        self.assertEqual(round_image((2, 0, 2, DIFFER), [0, 0, 1]), [0, 1, 1])
        self.assertEqual(round_image((2, 1, 2, DIFFER), [0, 0, 1]), [1, 1, 0])
        self.assertEqual(round_image((2, -1, 2, DIFFER), [0, 0, 1]), [1, 0, 1])
        self.assertEqual(round_image((3, 0, 1, [1, 2, 0]), [0, 1, 2, 2]), [1, 2, 0, 0])
        self.assertEqual(round_image(shift_map(4, 1), [0, 1, 2, 3]), [1, 2, 3, 0])
        self.assertEqual(round_image(shift_map(4, -1), [0, 1, 2, 3]), [3, 0, 1, 2])

    def test_row_of_one_cell(self):
        for size, width in [(2, 1), (2, 2), (2, 5), (2, 12), (3, 3), (4, 2)]:
            for cell in range(size):
                table = [0] * size ** width
                table[sum(cell * size ** at for at in range(width))] = 1
                for offset in [-100, -3, 0, 3, 100]:
                    self.assertEqual(round_image((size, offset, width, table), [cell]), [1])

    def test_window_longer_than_the_row(self):
        rng = random.Random(31)
        for size, width in [(2, 4), (2, 7), (2, 12), (3, 7), (4, 6)]:
            for length in range(1, 6):
                for offset in [-100, -7, -2, -1, 0, 1, 2, 7, 100]:
                    one = (size, offset, width, random_map(rng, size, width)[3])
                    row = [rng.randrange(size) for _ in range(length)]
                    self.assertEqual(round_image(one, row), round_image_of(one, row))

    def test_all_short_rows(self):
        for width in [1, 2]:
            for table in tables(2, width):
                for offset in [-2, -1, 0, 1]:
                    for length in range(1, 5):
                        for row in words(2, length):
                            one = (2, offset, width, table)
                            self.assertEqual(round_image(one, row), round_image_of(one, row))

    def test_random_rows(self):
        rng = random.Random(32)
        for size, width in [(2, 3), (3, 2), (4, 3), (4, 1)]:
            for offset in [-100, -41, -1, 0, 1, 41, 100]:
                for length in [1, 2, 7, 40, 99, 100, 101]:
                    one = (size, offset, width, random_map(rng, size, width)[3])
                    row = [rng.randrange(size) for _ in range(length)]
                    self.assertEqual(round_image(one, row), round_image_of(one, row))

    def test_repeated_row_keeps_its_length(self):
        rng = random.Random(33)
        one = random_map(rng, 3, 3)
        row = [0, 2, 1, 1, 0]
        for times in [2, 3, 4]:
            self.assertEqual(round_image(one, row * times), round_image(one, row) * times)
        self.assertEqual(round_image((2, 0, 1, [0, 0]), [0, 1, 1, 0]), [0, 0, 0, 0])

    def test_composition(self):
        rng = random.Random(34)
        for size, wide, other in [(2, 3, 4), (3, 2, 3), (4, 2, 2)]:
            for length in [1, 2, 5, 12]:
                first = random_map(rng, size, wide, 20)
                second = random_map(rng, size, other, 20)
                row = [rng.randrange(size) for _ in range(length)]
                after = round_image(second, round_image(first, row))
                self.assertEqual(round_image(composed(first, second), row), after)


class RoundSimpleTest(unittest.TestCase):
    def test_examples(self):
        self.assertEqual(round_simple([0]), [0])
        self.assertEqual(round_simple([3]), [3])
        self.assertEqual(round_simple([1, 1, 1, 1]), [1])
        self.assertEqual(round_simple([0, 1, 0, 1]), [0, 1])
        self.assertEqual(round_simple([0, 1, 0]), [0, 1, 0])
        self.assertEqual(round_simple([0, 1, 0, 1, 0]), [0, 1, 0, 1, 0])
        self.assertEqual(round_simple([0, 0, 1, 0, 0, 1]), [0, 0, 1])
        self.assertEqual(round_simple([0, 1, 1, 0]), [0, 1, 1, 0])
        self.assertEqual(round_simple([1, 0, 1, 0, 1, 0]), [1, 0])

    def test_all_short_rows(self):
        for size, most in [(2, 8), (3, 5), (4, 4)]:
            for length in range(1, most + 1):
                for row in words(size, length):
                    self.assertEqual(round_simple(row), simple_by_definition(row))

    def test_repeated_rows(self):
        rng = random.Random(35)
        for times in [1, 2, 3, 6, 10]:
            for _ in range(10):
                row = [rng.randrange(4) for _ in range(rng.randint(1, 12))]
                self.assertEqual(round_simple(row * times), simple_by_definition(row))

    def test_same_row_exactly_if_simple_forms_are_equal(self):
        rows = [row for length in range(1, 7) for row in words(2, length)]
        places = range(60)
        cells = [[round_cell(row, place) for place in places] for row in rows]
        for at, row in enumerate(rows):
            for other_at, other in enumerate(rows):
                same = round_simple(row) == round_simple(other)
                self.assertEqual(same, cells[at] == cells[other_at])


class RoundCellTest(unittest.TestCase):
    def test_near_places(self):
        row = [0, 1, 2]
        cells = [round_cell(row, place) for place in range(-4, 5)]
        self.assertEqual(cells, [2, 0, 1, 2, 0, 1, 2, 0, 1])

    def test_far_places(self):
        row = [3, 0, 1, 2, 0, 1, 1]
        for far in [7 * 10 ** 6, 7 * 10 ** 30, -7 * 10 ** 6, -7 * 10 ** 30]:
            for at in range(7):
                self.assertEqual(round_cell(row, far + at), row[at])

    def test_row_of_one_cell(self):
        for place in [-10 ** 20, -1, 0, 1, 10 ** 20]:
            self.assertEqual(round_cell([2], place), 2)


if __name__ == "__main__":
    unittest.main()

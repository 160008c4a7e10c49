"""Point 8: spread rows."""

import random
import unittest

from edenrow.maps import composed, shift_map
from edenrow.rows import spread_cell, spread_image, spread_simple
from tests.reference import image_reader, random_map, spread_reader, tables, words

DIFFER = [0, 1, 1, 0]
FAR = 10 ** 20


class SpreadSimpleTest(unittest.TestCase):
    def check(self, row):
        result = spread_simple(row)
        background, start, cells = result
        self.assertEqual(background, row[0])
        if cells:
            self.assertNotEqual(cells[0], background)
            self.assertNotEqual(cells[-1], background)
        else:
            self.assertEqual(start, 0)
        before, after = spread_reader(row), spread_reader(result)
        for place in range(row[1] - 3, row[1] + len(row[2]) + 3):
            self.assertEqual(before(place), after(place))
        self.assertEqual(spread_simple(result), result)

    def test_examples(self):
        self.assertEqual(spread_simple((0, 3, [0, 1, 0, 1, 0, 0])), (0, 4, [1, 0, 1]))
        self.assertEqual(spread_simple((1, 3, [0, 1, 0, 1, 0, 0])), (1, 3, [0, 1, 0, 1, 0, 0]))
        self.assertEqual(spread_simple((1, 3, [1, 1, 0])), (1, 5, [0]))
        self.assertEqual(spread_simple((1, 3, [0, 1, 1])), (1, 3, [0]))
        self.assertEqual(spread_simple((3, -9, [3, 2, 3, 1, 3])), (3, -8, [2, 3, 1]))

    def test_no_cells(self):
        for background in range(4):
            for start in [-FAR, -1, 0, 1, FAR]:
                self.assertEqual(spread_simple((background, start, [])), (background, 0, []))

    def test_all_cells_are_the_background(self):
        for background in range(4):
            for start in [-FAR, -1, 0, 1, FAR]:
                for many in [1, 2, 7]:
                    row = (background, start, [background] * many)
                    self.assertEqual(spread_simple(row), (background, 0, []))

    def test_far_from_the_place_zero(self):
        for start in [-FAR, FAR]:
            self.assertEqual(spread_simple((2, start, [2, 2, 0, 2, 1, 2])), (2, start + 2, [0, 2, 1]))
            self.assertEqual(spread_simple((2, start, [0])), (2, start, [0]))

    def test_all_short_rows(self):
        for size, most in [(2, 6), (3, 4), (4, 3)]:
            for background in range(size):
                for length in range(most + 1):
                    for cells in words(size, length):
                        for start in [-5, 0, 2]:
                            self.check((background, start, cells))


class SpreadImageTest(unittest.TestCase):
    def check(self, one, row):
        result = spread_image(one, row)
        size, offset, width, table = one
        self.assertEqual(result[0], table[sum(row[0] * size ** at for at in range(width))])
        self.assertEqual(spread_simple(result), result)
        expected, found = image_reader(one, spread_reader(row)), spread_reader(result)
        low = row[1] - offset - width - 2
        for place in range(low, low + len(row[2]) + width + 6):
            self.assertEqual(found(place), expected(place))
        # What lies outside of the places above is the background in both rows.
        self.assertTrue(not result[2] or low < result[1])
        self.assertTrue(not result[2] or result[1] + len(result[2]) < low + len(row[2]) + width + 6)

    def test_examples(self):
        self.assertEqual(spread_image((2, 0, 2, DIFFER), (0, 5, [1])), (0, 4, [1, 1]))
        self.assertEqual(spread_image((2, 3, 2, DIFFER), (0, 5, [1])), (0, 1, [1, 1]))
        self.assertEqual(spread_image((2, -3, 2, DIFFER), (0, 5, [1])), (0, 7, [1, 1]))
        self.assertEqual(spread_image((2, 0, 1, [1, 0]), (0, 5, [1])), (1, 5, [0]))
        self.assertEqual(spread_image((2, 0, 2, DIFFER), (1, 5, [0])), (0, 4, [1, 1]))
        self.assertEqual(spread_image(shift_map(3, 4), (1, 0, [2, 0])), (1, -4, [2, 0]))
        self.assertEqual(spread_image((2, 0, 1, [0, 0]), (0, 5, [1, 1])), (0, 0, []))

    def test_image_becomes_simple(self):
        row = (0, 5, [0, 1, 0, 0])
        self.assertEqual(spread_image(shift_map(2, 0), row), (0, 6, [1]))
        self.assertEqual(spread_image((2, 0, 1, [1, 1]), row), (1, 0, []))
        self.assertEqual(spread_image((3, 0, 1, [0, 1, 0]), (0, 2, [2, 1, 2, 2])), (0, 3, [1]))

    def test_no_cells(self):
        rng = random.Random(41)
        for size, width in [(2, 1), (2, 2), (2, 12), (3, 3), (4, 2)]:
            one = random_map(rng, size, width)
            for background in range(size):
                for start in [-FAR, -1, 0, 1, FAR]:
                    new = one[3][sum(background * size ** at for at in range(width))]
                    self.assertEqual(spread_image(one, (background, start, [])), (new, 0, []))
                    row = (background, start, [background] * 3)
                    self.assertEqual(spread_image(one, row), (new, 0, []))

    def test_all_short_rows(self):
        for width in [1, 2]:
            for table in tables(2, width):
                for offset in [-2, 0, 1]:
                    for background in range(2):
                        for cells in words(2, 1) + words(2, 2) + words(2, 3):
                            self.check((2, offset, width, table), (background, -1, cells))

    def test_random_rows(self):
        rng = random.Random(42)
        for size, width in [(2, 3), (2, 5), (3, 2), (3, 3), (4, 2), (4, 3)]:
            for background in range(size):
                for length in [0, 1, 2, 3, 10, 40]:
                    one = random_map(rng, size, width, 100)
                    cells = [rng.randrange(size) for _ in range(length)]
                    self.check(one, (background, rng.randint(-50, 50), cells))

    def test_window_longer_than_the_row(self):
        rng = random.Random(43)
        for size, width in [(2, 12), (3, 7), (4, 6)]:
            for background in range(size):
                for length in range(5):
                    for offset in [-100, -6, 0, 6, 100]:
                        one = (size, offset, width, random_map(rng, size, width)[3])
                        cells = [rng.randrange(size) for _ in range(length)]
                        self.check(one, (background, rng.randint(-9, 9), cells))

    def test_far_from_the_place_zero(self):
        rng = random.Random(44)
        for start in [-FAR, FAR]:
            for offset in [-100, 0, 100]:
                one = (3, offset, 3, random_map(rng, 3, 3)[3])
                self.check(one, (1, start, [0, 2, 1, 1, 0]))
            self.assertEqual(spread_image((2, 2, 2, DIFFER), (0, start, [1])), (0, start - 3, [1, 1]))

    def test_composition(self):
        rng = random.Random(45)
        for size, wide, other in [(2, 3, 4), (3, 2, 3), (4, 2, 2)]:
            for length in [0, 1, 2, 5, 12]:
                first = random_map(rng, size, wide, 20)
                second = random_map(rng, size, other, 20)
                row = (size - 1, 4, [rng.randrange(size) for _ in range(length)])
                after = spread_image(second, spread_image(first, row))
                self.assertEqual(spread_image(composed(first, second), row), after)


class SpreadCellTest(unittest.TestCase):
    def test_near_places(self):
        row = (1, -1, [0, 2, 3])
        cells = [spread_cell(row, place) for place in range(-4, 5)]
        self.assertEqual(cells, [1, 1, 1, 0, 2, 3, 1, 1, 1])

    def test_far_places(self):
        for background in range(4):
            row = (background, 0, [(background + 1) % 4] * 3)
            for place in [-FAR, -100, -2, -1, 3, 4, 100, FAR]:
                self.assertEqual(spread_cell(row, place), background)

    def test_row_far_from_the_place_zero(self):
        for start in [-FAR, FAR]:
            row = (0, start, [1, 2])
            cells = [spread_cell(row, start + at) for at in range(-2, 4)]
            self.assertEqual(cells, [0, 0, 1, 2, 0, 0])
            self.assertEqual(spread_cell(row, 0), 0)

    def test_no_cells_and_background_at_the_ends(self):
        for place in [-5, 0, 5]:
            self.assertEqual(spread_cell((3, 0, []), place), 3)
        self.assertEqual([spread_cell((1, 0, [1, 0, 1]), at) for at in range(-1, 4)], [1, 1, 0, 1, 1])


if __name__ == "__main__":
    unittest.main()

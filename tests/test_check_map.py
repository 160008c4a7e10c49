"""Point 3: which tuples are valid maps."""

import copy
import unittest

from edenrow.errors import BadMap
from edenrow.maps import check_map

GREATEST = {2: 12, 3: 7, 4: 6}
VERY_GREAT = [10 ** 6, 10 ** 18, 2 ** 64, 10 ** 100]


def cycling_table(size, width):
    return [number % size for number in range(size ** width)]


class CheckMapTest(unittest.TestCase):
    def accept(self, one):
        before = copy.deepcopy(one)
        self.assertIsNone(check_map(one))
        self.assertEqual(one, before)

    def refuse(self, one):
        before = copy.deepcopy(one)
        with self.assertRaises(BadMap):
            check_map(one)
        self.assertEqual(one, before)

    def test_every_size_and_width(self):
        for size in GREATEST:
            for width in range(1, GREATEST[size] + 1):
                self.accept((size, 0, width, cycling_table(size, width)))
                self.accept((size, 0, width, [0] * size ** width))
                self.accept((size, 0, width, [size - 1] * size ** width))

    def test_every_offset(self):
        for size in GREATEST:
            for offset in range(-100, 101):
                self.accept((size, offset, 1, list(range(size))))
        for offset in [-100, 0, 100]:
            self.accept((2, offset, 12, cycling_table(2, 12)))
            self.accept((4, offset, 6, cycling_table(4, 6)))

    def test_size_out_of_range(self):
        for size in [0, 1, 5, 6, -1, -2, -4] + VERY_GREAT:
            self.refuse((size, 0, 1, [0, 1]))
            self.refuse((size, 0, 1, [0] * min(abs(size), 10)))
            self.refuse((size, 0, 2, [0] * min(size ** 2, 100)))
        for size in VERY_GREAT:
            self.refuse((-size, 0, 1, [0, 1]))
            self.refuse((size, 0, size, [0]))
        self.refuse((1, 0, 1, [0]))
        self.refuse((0, 0, 1, []))
        self.refuse((5, 0, 1, [0, 1, 2, 3, 4]))
        self.refuse((5, 0, 1, [0, 1, 2, 3, 3]))
        self.refuse((1, 0, 10 ** 100, [0]))
        self.refuse((0, 0, 10 ** 100, []))

    def test_offset_out_of_range(self):
        for offset in [-101, 101, -102, 102, 1000] + VERY_GREAT:
            for size in GREATEST:
                self.refuse((size, offset, 1, list(range(size))))
                self.refuse((size, -abs(offset), 2, cycling_table(size, 2)))

    def test_width_out_of_range(self):
        for width in [0, -1, -2, -100] + [-great for great in VERY_GREAT]:
            for size in GREATEST:
                for table in [[], [0], [0, 1], list(range(size)), cycling_table(size, 2)]:
                    self.refuse((size, 0, width, table))

    def test_width_whose_table_is_too_long(self):
        for size in GREATEST:
            width = GREATEST[size] + 1
            self.refuse((size, 0, width, cycling_table(size, width)))
            self.refuse((size, 0, width, cycling_table(size, width - 1)))
            self.refuse((size, 0, width + 1, cycling_table(size, width + 1)))
        self.refuse((3, 0, 8, [0] * 4096))
        self.refuse((3, 0, 8, [0] * 4097))

    def test_width_whose_table_could_not_be_built(self):
        for width in VERY_GREAT:
            for size in GREATEST:
                for table in [[], [0], [0, 1], [0] * 4096, [0] * 8192]:
                    self.refuse((size, 0, width, table))

    def test_table_too_short_or_too_long(self):
        for size in GREATEST:
            for width in range(1, GREATEST[size] + 1):
                table = cycling_table(size, width)
                self.refuse((size, 0, width, table[:-1]))
                self.refuse((size, 0, width, table + [0]))
                self.refuse((size, 0, width, table * 2))
                self.refuse((size, 0, width, []))

    def test_table_of_another_width(self):
        self.refuse((2, 0, 3, cycling_table(2, 2)))
        self.refuse((2, 0, 2, cycling_table(2, 3)))
        self.refuse((4, 0, 2, cycling_table(2, 2)))
        self.refuse((2, 0, 2, cycling_table(4, 2)))

    def test_cell_out_of_range(self):
        for size in GREATEST:
            for width in range(1, GREATEST[size] + 1):
                length = size ** width
                for place in [0, length // 2, length - 1]:
                    for cell in [-1, size, size + 1, -size, 10 ** 30, -10 ** 30]:
                        table = cycling_table(size, width)
                        table[place] = cell
                        self.refuse((size, 0, width, table))


if __name__ == "__main__":
    unittest.main()

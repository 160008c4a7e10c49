"""Point 5: maps reduced and compared."""

import random
import unittest

from edenrow.errors import OutOfRange
from edenrow.maps import reduced, same_map
from tests.reference import is_same, random_map, tables, widened

DIFFER = [0, 1, 1, 0]


class ReducedTest(unittest.TestCase):
    def test_what_is_reduced_stays(self):
        for one in [(2, 5, 2, DIFFER), (2, -100, 1, [1, 0]), (3, 100, 1, [0, 0, 1]), (2, 0, 1, [1, 1])]:
            self.assertEqual(reduced(one), one)

    def test_first_cells_are_removed(self):
        self.assertEqual(reduced((2, 0, 2, [0, 1, 0, 1])), (2, 1, 1, [0, 1]))
        self.assertEqual(reduced((2, -3, 3, DIFFER * 2)), (2, -2, 2, DIFFER))
        self.assertEqual(reduced((2, -3, 5, DIFFER * 8)), (2, 0, 2, DIFFER))
        self.assertEqual(reduced((3, 7, 3, [2, 0, 1] * 9)), (3, 9, 1, [2, 0, 1]))

    def test_last_cells_are_removed(self):
        self.assertEqual(reduced((2, 4, 2, [0, 0, 1, 1])), (2, 4, 1, [0, 1]))
        self.assertEqual(reduced((2, 4, 3, [0, 0, 1, 1, 1, 1, 0, 0])), (2, 4, 2, DIFFER))
        self.assertEqual(reduced((4, -9, 2, [3] * 4 + [2] * 4 + [1] * 4 + [0] * 4)), (4, -9, 1, [3, 2, 1, 0]))

    def test_a_cell_in_the_middle_stays(self):
        # The new cell depends on the first and the last cell of three.
        one = (2, 0, 3, [0, 1, 0, 1, 1, 0, 1, 0])
        self.assertEqual(reduced(one), one)

    def test_cells_at_both_ends(self):
        rng = random.Random(11)
        for size, width in [(2, 1), (2, 2), (2, 3), (2, 6), (3, 1), (3, 2), (4, 1), (4, 2)]:
            for before in range(4):
                for behind in range(4):
                    one = (size, rng.randint(-90, 90), width, self.needed_table(rng, size, width))
                    if size ** (before + width + behind) <= 4096:
                        self.assertEqual(reduced(widened(one, before, behind)), one)

    def needed_table(self, rng, size, width):
        """A random table that depends on the first and on the last cell."""
        while True:
            table = random_map(rng, size, width)[3]
            block = len(table) // size
            first = any(table[at] != table[at % block] for at in range(len(table)))
            last = any(table[at] != table[at - at % size] for at in range(len(table)))
            if first and last:
                return table

    def test_constant_tables(self):
        for size, most in [(2, 12), (3, 7), (4, 6)]:
            for width in [1, 2, 3, most]:
                for cell in range(size):
                    for offset in [-100, -1, 0, 1, 3, 100]:
                        one = (size, offset, width, [cell] * size ** width)
                        self.assertEqual(reduced(one), (size, 0, 1, [cell] * size))

    def test_all_small_tables(self):
        for width in [1, 2, 3]:
            for table in tables(2, width):
                one = (2, 1, width, table)
                result = reduced(one)
                self.assertTrue(is_same(one, result))
                self.assert_no_narrower(result)

    def assert_no_narrower(self, one):
        size, offset, width, table = one
        self.assertEqual(len(table), size ** width)
        if width == 1:
            self.assertTrue(offset == 0 or len(set(table)) > 1)
            return
        self.assertNotEqual(table, table[:len(table) // size] * size)
        self.assertNotEqual(table, [table[at - at % size] for at in range(len(table))])

    def test_offset_at_the_bound(self):
        self.assertEqual(reduced((2, 99, 2, [0, 1, 0, 1])), (2, 100, 1, [0, 1]))
        self.assertEqual(reduced((2, 100, 2, [0, 0, 1, 1])), (2, 100, 1, [0, 1]))
        self.assertEqual(reduced((2, -100, 2, [0, 1, 0, 1])), (2, -99, 1, [0, 1]))
        self.assertEqual(reduced((2, 89, 12, [1, 0] * 2048)), (2, 100, 1, [1, 0]))

    def test_offset_beyond_the_bound_is_refused(self):
        for one in [
            (2, 100, 2, [0, 1, 0, 1]),
            (2, 100, 3, DIFFER * 2),
            (2, 99, 3, [1, 0] * 4),
            (2, 90, 12, [1, 0] * 2048),
            (2, 91, 12, [1, 0] * 2048),
            (4, 98, 4, [0, 1, 2, 3] * 64),
        ]:
            with self.assertRaises(OutOfRange):
                reduced(one)


class SameMapTest(unittest.TestCase):
    def test_examples(self):
        self.assertIs(same_map((2, 0, 2, [0, 1, 0, 1]), (2, 1, 1, [0, 1])), True)
        self.assertIs(same_map((2, 0, 2, [0, 0, 1, 1]), (2, 0, 1, [0, 1])), True)
        self.assertIs(same_map((2, 0, 2, [0, 1, 0, 1]), (2, 0, 1, [0, 1])), False)
        self.assertIs(same_map((2, 0, 2, DIFFER), (2, 0, 2, [1, 0, 0, 1])), False)
        self.assertIs(same_map((2, 0, 2, DIFFER), (2, 1, 2, DIFFER)), False)
        self.assertIs(same_map((2, -7, 3, [1] * 8), (2, 60, 1, [1, 1])), True)
        self.assertIs(same_map((2, -7, 3, [1] * 8), (2, -7, 3, [0] * 8)), False)

    def test_all_pairs_of_small_maps(self):
        small = [
            (2, offset, width, table)
            for offset in [-1, 0, 1] for width in [1, 2] for table in tables(2, width)
        ]
        for first in small:
            for second in small:
                self.assertIs(same_map(first, second), is_same(first, second))

    def test_widened_maps(self):
        rng = random.Random(12)
        for size, width in [(2, 1), (2, 3), (3, 1), (3, 2), (4, 1), (4, 2)]:
            for _ in range(10):
                one = random_map(rng, size, width)
                first = widened(one, rng.randint(0, 2), rng.randint(0, 2))
                second = widened(one, rng.randint(0, 2), rng.randint(0, 2))
                self.assertIs(same_map(first, second), True)
                other = random_map(rng, size, width)
                self.assertIs(same_map(first, other), is_same(one, other))

    def test_different_sizes(self):
        self.assertIs(same_map((2, 0, 1, [0, 1]), (3, 0, 1, [0, 1, 2])), False)
        self.assertIs(same_map((2, 0, 1, [0, 0]), (4, 0, 1, [0, 0, 0, 0])), False)
        self.assertIs(same_map((2, 0, 2, [0, 1, 1, 0]), (4, 0, 1, [0, 1, 1, 0])), False)
        self.assertIs(same_map((2, 0, 4, [0, 1] * 8), (4, 0, 2, [0, 1] * 8)), False)

    def test_offsets_beyond_the_bound(self):
        far = (2, 100, 2, [0, 1, 0, 1])
        self.assertIs(same_map(far, far), True)
        self.assertIs(same_map(far, (2, 99, 3, [0, 1] * 4)), True)
        self.assertIs(same_map(far, (2, 100, 1, [0, 1])), False)
        self.assertIs(same_map((2, 100, 1, [0, 1]), far), False)
        self.assertIs(same_map(far, (2, 100, 3, [0, 1] * 4)), False)
        self.assertIs(same_map(far, (3, 100, 2, [0, 1, 2] * 3)), False)
        self.assertIs(same_map(far, (2, 100, 2, [1, 0, 1, 0])), False)
        self.assertIs(same_map(far, (2, -100, 2, [0, 1, 0, 1])), False)


if __name__ == "__main__":
    unittest.main()

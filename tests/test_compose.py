"""Point 6: composition, power, shift."""

import random
import unittest

from edenrow.errors import OutOfRange
from edenrow.maps import apply_word, composed, power, reduced, shift_map
from tests.reference import cell_of_image, image_reader, random_map, round_reader, tables, widened, words

DIFFER = [0, 1, 1, 0]
# The first cell of the window, with more cells that do not matter behind it.
KEEP_WIDE = [0] * 16 + [1] * 16


def power_by_steps(one, exponent):
    result = (one[0], 0, 1, list(range(one[0])))
    for _ in range(exponent):
        result = reduced(composed(result, one))
    return result


class ComposedTest(unittest.TestCase):
    def check(self, first, second):
        size, offset, width, table = composed(first, second)
        self.assertEqual(size, first[0])
        self.assertEqual(offset, first[1] + second[1])
        self.assertEqual(width, first[2] + second[2] - 1)
        expected = []
        for word in words(size, width):
            image = apply_word(second, apply_word(first, word))
            self.assertEqual(len(image), 1)
            expected.append(image[0])
        self.assertEqual(table, expected)

    def test_examples(self):
        differ = (2, 3, 2, DIFFER)
        self.assertEqual(composed(differ, differ), (2, 6, 3, [0, 1, 0, 1, 1, 0, 1, 0]))
        both = (2, -1, 2, [0, 0, 0, 1])
        self.assertEqual(composed(differ, both), (2, 2, 3, [0, 0, 1, 0, 0, 1, 0, 0]))
        self.assertEqual(composed(both, differ), (2, 2, 3, [0, 0, 0, 1, 0, 0, 1, 0]))

    def test_first_map_is_applied_first(self):
        first = (3, 0, 1, [1, 1, 2])
        second = (3, 0, 1, [2, 0, 1])
        self.assertEqual(composed(first, second), (3, 0, 1, [0, 0, 1]))
        self.assertEqual(composed(second, first), (3, 0, 1, [2, 1, 1]))

    def test_all_small_tables(self):
        for first in tables(2, 2):
            for second in tables(2, 1) + tables(2, 2):
                self.check((2, 1, 2, first), (2, -2, 1 if len(second) == 2 else 2, second))
                self.check((2, 1, 1 if len(second) == 2 else 2, second), (2, 4, 2, first))

    def test_random_maps(self):
        rng = random.Random(21)
        for size, most in [(2, 7), (3, 4), (4, 4)]:
            for wide in range(1, most + 1):
                for other in range(1, most + 2 - wide):
                    self.check(random_map(rng, size, wide, 50), random_map(rng, size, other, 50))

    def test_changes_rows_by_both(self):
        rng = random.Random(22)
        for size, wide, other in [(2, 3, 2), (2, 1, 4), (3, 2, 2), (4, 2, 1)]:
            for _ in range(5):
                first = random_map(rng, size, wide, 9)
                second = random_map(rng, size, other, 9)
                row = round_reader([rng.randrange(size) for _ in range(37)])
                between = image_reader(first, row)
                for place in range(-20, 20):
                    after = cell_of_image(second, between, place)
                    self.assertEqual(cell_of_image(composed(first, second), row, place), after)

    def test_is_not_reduced(self):
        keep = (2, 0, 2, [0, 0, 1, 1])
        self.assertEqual(composed(keep, keep), (2, 0, 3, [0] * 4 + [1] * 4))
        zero = (2, 5, 2, [0] * 4)
        self.assertEqual(composed(zero, (2, 1, 1, [1, 0])), (2, 6, 2, [1] * 4))

    def test_greatest_tables(self):
        rng = random.Random(23)
        for size, width in [(2, 12), (3, 7), (4, 6)]:
            self.check(random_map(rng, size, width), random_map(rng, size, 1))
            self.check(random_map(rng, size, 1), random_map(rng, size, width))
            self.check(random_map(rng, size, width - 1), random_map(rng, size, 2))
            self.check(random_map(rng, size, 2), random_map(rng, size, width - 1))

    def test_too_many_cells(self):
        for size, width in [(2, 12), (3, 7), (4, 6)]:
            for wide in range(2, width + 1):
                first = (size, 0, wide, [0] * size ** wide)
                second = (size, 0, width + 2 - wide, [0] * size ** (width + 2 - wide))
                with self.assertRaises(OutOfRange):
                    composed(first, second)
            greatest = (size, 0, width, [0] * size ** width)
            with self.assertRaises(OutOfRange):
                composed(greatest, greatest)

    def test_different_sizes(self):
        for first in [2, 3, 4]:
            for second in [2, 3, 4]:
                if first != second:
                    with self.assertRaises(OutOfRange):
                        composed((first, 0, 1, [0] * first), (second, 0, 1, [0] * second))
        with self.assertRaises(OutOfRange):
            composed((2, 0, 2, [0, 1, 1, 0]), (4, 0, 1, [0, 1, 1, 0]))

    def test_offsets(self):
        for first, second in [(100, 0), (0, -100), (50, 50), (-50, -50), (-100, 100), (99, 1), (-1, -99)]:
            result = composed(shift_map(2, first), shift_map(2, second))
            self.assertEqual(result, shift_map(2, first + second))
        for first, second in [(100, 1), (1, 100), (-100, -1), (-51, -50), (100, 100), (-100, -100)]:
            with self.assertRaises(OutOfRange):
                composed(shift_map(2, first), shift_map(2, second))
            with self.assertRaises(OutOfRange):
                composed((2, first, 1, [0, 0]), (2, second, 1, [0, 0]))


class PowerTest(unittest.TestCase):
    def test_exponent_zero(self):
        for size in [2, 3, 4]:
            keep = (size, 0, 1, list(range(size)))
            self.assertEqual(power((size, 0, 1, [0] * size), 0), keep)
            self.assertEqual(power((size, 100, 2, [0] * size ** 2), 0), keep)
            self.assertEqual(power((size, 100, 2, list(range(size)) * size), 0), keep)

    def test_exponent_one_is_the_reduced_map(self):
        rng = random.Random(24)
        for size, width in [(2, 1), (2, 3), (3, 2), (4, 2), (2, 12), (3, 7), (4, 6)]:
            one = random_map(rng, size, width)
            self.assertEqual(power(one, 1), reduced(one))
        self.assertEqual(power((2, 0, 3, [0, 1] * 4), 1), (2, 2, 1, [0, 1]))
        self.assertEqual(power((2, 9, 2, [1] * 4), 1), (2, 0, 1, [1, 1]))

    def test_differences(self):
        one = (2, 1, 2, DIFFER)
        self.assertEqual(power(one, 2), (2, 2, 3, [0, 1, 0, 1, 1, 0, 1, 0]))
        self.assertEqual(power(one, 3)[:3], (2, 3, 4))
        self.assertEqual(power(one, 8)[:3], (2, 8, 9))
        for exponent in range(12):
            result = power(one, exponent)
            self.assertEqual(result, power_by_steps(one, exponent))
            self.assertEqual(result[2], exponent + 1)

    def test_by_its_definition(self):
        rng = random.Random(25)
        for size, width in [(2, 1), (2, 2), (3, 1), (3, 2), (4, 1), (4, 2)]:
            for _ in range(30):
                one = random_map(rng, size, width, 2)
                for exponent in range(7):
                    self.assert_by_steps(one, exponent)

    def assert_by_steps(self, one, exponent):
        try:
            expected = power_by_steps(one, exponent)
        except OutOfRange:
            with self.assertRaises(OutOfRange):
                power(one, exponent)
        else:
            self.assertEqual(power(one, exponent), expected)

    def test_powers_that_go_round(self):
        turning = [
            (2, 0, 1, [1, 0]),
            (3, 0, 1, [1, 2, 0]),
            (4, 0, 1, [1, 2, 3, 0]),
            (4, 0, 1, [1, 2, 0, 3]),
            (4, 0, 1, [1, 0, 3, 2]),
            (4, 0, 1, [1, 2, 3, 3]),
            (4, 0, 1, [1, 2, 3, 2]),
            (4, 0, 1, [0, 0, 1, 2]),
            (2, -1, 3, [0, 0, 0, 1, 0, 0, 0, 0]),
            (2, -2, 5, [0] * 4 + [1] * 4 + [0] * 4 + [1] * 4 + [1] * 4 + [0] * 4 + [1] * 4 + [0] * 4),
        ]
        for one in turning:
            for exponent in range(40):
                self.assert_by_steps(one, exponent)
            for exponent in [999, 1000, 1001]:
                self.assert_by_steps(one, exponent)

    def test_all_maps_of_width_one(self):
        for size in [2, 3]:
            for table in tables(size, 1):
                for exponent in range(20):
                    self.assert_by_steps((size, 0, 1, table), exponent)

    def test_reduced_after_each_composition(self):
        one = (2, 0, 5, KEEP_WIDE)
        self.assertEqual(power(one, 1000), (2, 0, 1, [0, 1]))
        self.assertEqual(power((2, 10, 5, KEEP_WIDE), 10), (2, 100, 1, [0, 1]))

    def test_composed_with_the_map_as_it_was_given(self):
        narrow = (4, 0, 2, [(number // 4 + number) % 4 for number in range(16)])
        wide = widened(narrow, 0, 4)
        self.assertEqual(power(wide, 1), narrow)
        self.assertEqual(power(narrow, 2)[2], 3)
        with self.assertRaises(OutOfRange):
            power(wide, 2)
        before = widened((2, -45, 1, [0, 1]), 10, 0)
        self.assertEqual(before[1:3], (-55, 11))
        self.assertEqual(power(before, 2), (2, -90, 1, [0, 1]))
        before = widened((2, -45, 1, [0, 1]), 11, 0)
        with self.assertRaises(OutOfRange):
            power(before, 2)

    def test_refused_where_the_table_is_too_long(self):
        one = (2, 0, 2, DIFFER)
        self.assertEqual(power(one, 11)[2], 12)
        for exponent in [12, 13, 100]:
            with self.assertRaises(OutOfRange):
                power(one, exponent)

    def test_refused_where_one_of_the_steps_is(self):
        # Twice this map is 0, but the table of the composition would be too long.
        table = [1 if word[0] >= 2 and word[3] >= 2 else 0 for word in words(4, 4)]
        one = (4, 0, 4, table)
        self.assertEqual(power(one, 1), one)
        for exponent in [2, 3, 10]:
            with self.assertRaises(OutOfRange):
                power(one, exponent)
        # Twice this map is 0, but the offset of the composition would be too great.
        falling = (3, 60, 1, [0, 0, 1])
        self.assertEqual(power(falling, 1), falling)
        for exponent in [2, 3, 10]:
            with self.assertRaises(OutOfRange):
                power(falling, exponent)

    def test_refused_where_an_offset_is_too_far(self):
        for places in [-60, 60, 51, -51]:
            self.assertEqual(power(shift_map(3, places), 1), shift_map(3, places))
            for exponent in [2, 3, 1000]:
                with self.assertRaises(OutOfRange):
                    power(shift_map(3, places), exponent)
        self.assertEqual(power(shift_map(2, 1), 100), shift_map(2, 100))
        self.assertEqual(power(shift_map(2, -1), 100), shift_map(2, -100))
        for places in [-1, 1]:
            with self.assertRaises(OutOfRange):
                power(shift_map(2, places), 101)
        # The composition is within its bounds, but reducing it is not.
        for exponent in [1, 2]:
            with self.assertRaises(OutOfRange):
                power((2, 100, 2, [0, 1, 0, 1]), exponent)

    def test_negative_exponent(self):
        for exponent in [-1, -2, -1000, -10 ** 30]:
            for one in [(2, 0, 1, [0, 1]), (2, 0, 2, DIFFER), shift_map(4, 1)]:
                with self.assertRaises(OutOfRange):
                    power(one, exponent)


class ShiftMapTest(unittest.TestCase):
    def test_sizes_and_places(self):
        for size in [2, 3, 4]:
            for places in [-100, -99, -1, 0, 1, 2, 99, 100]:
                self.assertEqual(shift_map(size, places), (size, places, 1, list(range(size))))

    def test_moves_rows(self):
        for places in [-5, 0, 3]:
            row = round_reader([0, 1, 2, 2, 1, 0, 0])
            for place in range(-10, 10):
                self.assertEqual(cell_of_image(shift_map(3, places), row, place), row(place + places))

    def test_size_out_of_range(self):
        for size in [1, 5, 0, -1, -2, 10 ** 30, -10 ** 30]:
            for places in [0, 1, -100]:
                with self.assertRaises(OutOfRange):
                    shift_map(size, places)

    def test_places_out_of_range(self):
        for places in [-101, 101, 1000, 10 ** 30, -10 ** 30]:
            for size in [2, 3, 4]:
                with self.assertRaises(OutOfRange):
                    shift_map(size, places)


if __name__ == "__main__":
    unittest.main()

"""Points 27 and 28: the return of a spread row, and patterns."""

import random
import unittest

from edenrow.errors import OutOfRange, TooLong
from edenrow.maps import shift_map
from edenrow.patterns import patterns, return_of
from edenrow.rows import spread_simple
from tests.reference import cell_of_image, permuting_map, random_map, spread_reader, widened, words
from tests.reversible import HALVES, SLOW, TURN_THREE, TURN_TWO, reversible_map

KEEP = (2, 0, 1, [0, 1])
TURN = (2, 0, 1, [1, 0])
ZERO = (2, 0, 1, [0, 0])
# A one goes on by one place if there is no other one.
TRAFFIC = (2, -1, 3, [0, 0, 0, 1, 1, 1, 0, 1])
# Each row with a one on zeros grows at both ends in each step.
GROWING = (2, -1, 3, [0, 1, 1, 1, 1, 0, 0, 0])


def image_by_cells(one, row):
    """The image of a spread row, cell by cell, and its simple form by the point."""
    background, start, cells = row
    reader = spread_reader(row)
    size, offset, width, _ = one
    new_background = cell_of_image(one, spread_reader((background, 0, [])), 0)
    first = start - offset - width + 1
    after = start + len(cells) - offset
    image = {place: cell_of_image(one, reader, place) for place in range(first, after)}
    places = [place for place, cell in image.items() if cell != new_background]
    if not places:
        return (new_background, 0, [])
    return (new_background, min(places), [image[place] for place in range(min(places), max(places) + 1)])


def return_by_cells(one, row, most):
    row = spread_simple(row)
    image = row
    for step in range(1, most + 1):
        image = image_by_cells(one, image)
        if len(image[2]) > 500:
            return None
        if (image[0], image[2]) == (row[0], row[2]):
            return (step, image[1] - row[1])
    return None


def patterns_by_cells(one, length, most):
    found = []
    for many in range(1, length + 1):
        for cells in words(one[0], many):
            if cells[0] != 0 and cells[-1] != 0:
                result = return_by_cells(one, (0, 0, cells), most)
                if result is not None:
                    found.append((cells,) + result)
    return found


def some_maps(seed, many):
    rng = random.Random(seed)
    for at in range(many):
        size = rng.choice([2, 3, 4])
        if at % 2:
            one = random_map(rng, size, rng.randint(1, 5 if size == 2 else 3))
            # Rows last longer where the background stays.
            one[3][0] = rng.choice([0, 0, 0, one[3][0]])
            yield one
        else:
            yield reversible_map(rng, size, 2)[0]


class ReturnTest(unittest.TestCase):
    def test_examples(self):
        self.assertEqual(return_of(KEEP, (0, 5, [1, 1]), most=10), (1, 0))
        self.assertEqual(return_of(shift_map(2, 3), (0, 5, [1, 0, 1]), most=10), (1, -3))
        self.assertEqual(return_of(shift_map(2, -100), (0, 5, [1, 0, 1]), most=1), (1, 100))
        self.assertEqual(return_of(TRAFFIC, (0, 0, [1]), most=5), (1, 1))
        self.assertEqual(return_of(TRAFFIC, (1, 0, [0]), most=5), (1, -1))
        self.assertIsNone(return_of(TRAFFIC, (0, 0, [1, 1]), most=50))
        self.assertEqual(return_of(TURN, (0, 3, [1]), most=10), (2, 0))
        self.assertIsNone(return_of(TURN, (0, 3, [1]), most=1))
        self.assertIsNone(return_of(ZERO, (0, 3, [1]), most=100))
        self.assertEqual(return_of(TURN_THREE, (0, 7, [2]), most=5), (2, 0))
        self.assertEqual(return_of(HALVES, (0, 7, [2]), most=5), (1, 0))
        self.assertEqual(return_of(HALVES, (0, 7, [1]), most=5), (1, -1))
        self.assertIsNone(return_of(HALVES, (0, 7, [3]), most=1000))

    def test_rows_without_cells(self):
        # They have the start 0, and so has each of their images.
        self.assertEqual(return_of(KEEP, (0, 5, []), most=1), (1, 0))
        self.assertEqual(return_of(shift_map(3, 50), (2, 5, [2, 2]), most=1), (1, 0))
        self.assertEqual(return_of(TURN, (1, 5, [1]), most=9), (2, 0))
        self.assertEqual(return_of((4, 3, 1, [1, 2, 3, 0]), (2, 0, []), most=4), (4, 0))
        self.assertIsNone(return_of((4, 3, 1, [1, 2, 3, 0]), (2, 0, []), most=3))
        self.assertEqual(return_of(ZERO, (0, 0, []), most=9), (1, 0))
        self.assertIsNone(return_of(ZERO, (1, 0, []), most=9))
        self.assertIsNone(return_of((4, 0, 1, [1, 2, 3, 1]), (0, 0, []), most=10 ** 9))

    def test_rows_that_are_not_in_simple_form(self):
        for start in [-1000, 0, 7]:
            self.assertEqual(return_of(TRAFFIC, (0, start, [0, 0, 1, 0]), most=5), (1, 1))
            self.assertEqual(return_of(shift_map(3, 2), (1, start, [1, 1, 0, 2, 1]), most=5), (1, -2))
            self.assertEqual(return_of(TURN_THREE, (0, start, [0, 2, 0]), most=5), (2, 0))

    def test_the_place_does_not_matter(self):
        for start in [-10 ** 20, -5, 0, 3, 10 ** 20]:
            self.assertEqual(return_of(SLOW, (0, start, [2, 0, 2]), most=50), (1, 0))
            self.assertEqual(return_of(TRAFFIC, (0, start, [1, 0, 1]), most=50), (1, 1))

    def test_no_steps(self):
        for one in [KEEP, TURN, ZERO, SLOW]:
            self.assertIsNone(return_of(one, (0, 0, [1]), most=0))
            self.assertIsNone(return_of(one, (0, 0, []), most=0))

    def test_negative_numbers_of_steps(self):
        for most in [-1, -2, -10 ** 30]:
            for row in [(0, 0, [1]), (0, 0, []), (1, 4, [1, 1])]:
                with self.assertRaises(OutOfRange):
                    return_of(KEEP, row, most=most)

    def test_by_cells(self):
        rng = random.Random(261)
        counts = {}
        for one in some_maps(262, 300):
            for _ in range(5):
                cells = [rng.randrange(one[0]) for _ in range(rng.randint(0, 8))]
                row = (rng.randrange(one[0]), rng.randint(-9, 9), cells)
                most = rng.randint(0, 25)
                expected = return_by_cells(one, row, most)
                self.assertEqual(return_of(one, row, most=most), expected, (one, row, most))
                steps = expected[0] if expected else 0
                counts[steps] = counts.get(steps, 0) + 1
        for steps in [0, 1, 2, 3, 4]:
            self.assertGreater(counts[steps], 2)

    def test_wide_maps_and_long_rows(self):
        rng = random.Random(263)
        checked = 0
        for size, width in [(2, 12), (2, 9), (3, 7), (3, 5), (4, 6), (4, 4)]:
            for one in [random_map(rng, size, width), widened(shift_map(size, 4), 2, width - 3)]:
                for many in [1, 20, 300, 480]:
                    cells = [1] + [rng.randrange(size) for _ in range(many - 1)]
                    row = (0, rng.randint(-9, 9), cells)
                    result = return_of(one, row, most=6)
                    self.assertEqual(result, return_by_cells(one, row, 6))
                    checked += result is not None
        self.assertGreaterEqual(checked, 24)

    def test_long_rows_that_return(self):
        one = (4, 0, 1, [1, 2, 3, 0])
        self.assertEqual(return_of(one, (0, 0, [1, 0, 2] * 160), most=4), (4, 0))
        rng = random.Random(264)
        for _ in range(30):
            row = (0, 0, [1] + [rng.randrange(2) for _ in range(300)] + [1])
            result = return_of(TURN_TWO, row, most=10)
            self.assertEqual(result, return_by_cells(TURN_TWO, row, 2))
            self.assertIn(result, [(1, 0), (2, 0)])

    def test_images_with_500_cells(self):
        rng = random.Random(265)
        # Where a 0 is before a 2, the image has one cell more, and the next image is the row again.
        for many in [499, 500, 501]:
            row = (0, 3, [2] + [rng.randrange(3) for _ in range(many - 2)] + [2])
            expected = (2, 0) if many == 499 else None
            self.assertEqual(return_of(TURN_THREE, row, most=50), expected)
            self.assertEqual(return_by_cells(TURN_THREE, row, 2), expected)
            back = (0, 3, [1, 2] + [rng.randrange(3) for _ in range(many - 3)] + [2])
            self.assertEqual(return_of(TURN_THREE, back, most=50), (2, 0) if many < 501 else None)
        for many in [1, 499, 500]:
            row = (0, 0, [1] * many)
            self.assertEqual(return_of(KEEP, row, most=1), (1, 0))
            self.assertEqual(return_of(KEEP, (0, 0, [0] * 50 + [1] * many + [0] * 50), most=1), (1, 0))
        for many in [501, 502, 3000]:
            self.assertIsNone(return_of(KEEP, (0, 0, [1] * many), most=1))
            self.assertIsNone(return_of(TURN, (1, 0, [0] * many), most=10))
            self.assertEqual(return_of(KEEP, (1, 0, [1] * many), most=1), (1, 0))

    def test_many_steps_are_quick_where_images_go_round_or_grow(self):
        for one, cells in [(ZERO, [1]), (TRAFFIC, [1, 1]), (GROWING, [1]), (TRAFFIC, [1] * 400)]:
            self.assertIsNone(return_of(one, (0, 0, cells), most=10 ** 30))
        # From the second step on these go round, without the row.
        one = (4, 1, 1, [0, 2, 3, 2])
        self.assertIsNone(return_of(one, (0, 0, [1]), most=10 ** 30))
        self.assertEqual(return_of(one, (0, 0, [2, 0, 3]), most=10 ** 30), (2, -2))


class PatternsTest(unittest.TestCase):
    def test_examples(self):
        self.assertEqual(patterns(KEEP, 3, most=5), [
            ([1], 1, 0), ([1, 1], 1, 0), ([1, 0, 1], 1, 0), ([1, 1, 1], 1, 0),
        ])
        self.assertEqual(patterns(TURN, 1, most=5), [([1], 2, 0)])
        self.assertEqual(patterns(ZERO, 5, most=5), [])
        self.assertEqual(patterns(TRAFFIC, 4, most=9), [
            ([1], 1, 1), ([1, 0, 1], 1, 1), ([1, 0, 0, 1], 1, 1),
        ])
        self.assertEqual(patterns(HALVES, 2, most=9), [
            ([1], 1, -1), ([2], 1, 0), ([1, 1], 1, -1), ([2, 2], 1, 0),
        ])
        self.assertEqual(patterns(TURN_THREE, 1, most=2), [([1], 1, 0), ([2], 2, 0)])
        self.assertEqual(patterns(TURN_THREE, 1, most=1), [([1], 1, 0)])
        self.assertEqual(patterns(GROWING, 6, most=30), [])

    def test_by_cells(self):
        many = 0
        for one in some_maps(266, 60):
            length = {2: 6, 3: 4, 4: 3}[one[0]]
            for most in [0, 1, 7]:
                expected = patterns_by_cells(one, length, most)
                self.assertEqual(patterns(one, length, most=most), expected)
                many += len(expected)
        self.assertGreater(many, 100)

    def test_order(self):
        found = patterns(shift_map(3, 1), 4, most=1)
        cells = [pattern[0] for pattern in found]
        self.assertEqual(cells, sorted(cells, key=lambda word: (len(word), word)))
        self.assertEqual(len(cells), 2 + 4 + 12 + 36)
        for pattern in found:
            self.assertEqual(pattern, (pattern[0], 1, -1))

    def test_no_cells_and_no_steps(self):
        for one in [KEEP, TURN, SLOW]:
            for most in [0, 1, 100]:
                self.assertEqual(patterns(one, 0, most=most), [])
            for length in [0, 1, 6]:
                self.assertEqual(patterns(one, length, most=0), [])

    def test_growing_and_vanishing_rows(self):
        for rule in [30, 110, 90, 45]:
            one = (2, -1, 3, [rule >> number & 1 for number in range(8)])
            self.assertEqual(patterns(one, 5, most=20), patterns_by_cells(one, 5, 20))
        one = (3, 0, 2, [0, 0, 0, 0, 1, 0, 2, 0, 2])
        self.assertEqual(patterns(one, 4, most=20), patterns_by_cells(one, 4, 20))

    def test_backgrounds_that_change(self):
        # The background is 0 again after each second step only.
        one = (2, 0, 2, [1, 0, 1, 0])
        found = patterns(one, 4, most=6)
        self.assertEqual(found, patterns_by_cells(one, 4, 6))
        self.assertEqual(found[0], ([1], 2, -2))
        for table in words(2, 4):
            one = (2, 0, 2, table)
            self.assertEqual(patterns(one, 4, most=6), patterns_by_cells(one, 4, 6))

    def test_every_pattern_returns(self):
        rng = random.Random(267)
        for one in some_maps(268, 30):
            for cells, steps, places in patterns(one, 3, most=12):
                start = rng.randint(-50, 50)
                self.assertEqual(return_of(one, (0, start, cells), most=12), (steps, places))
                self.assertIsNone(return_of(one, (0, start, cells), most=steps - 1))

    def test_the_greatest_lengths(self):
        for size, length in [(2, 12), (3, 7), (4, 6)]:
            many = sum((size - 1) ** min(n, 2) * size ** max(n - 2, 0) for n in range(1, length + 1))
            found = patterns(shift_map(size, -5), length, most=1000)
            self.assertEqual(len(found), many)
            self.assertEqual(found[-1], ([size - 1] * length, 1, 5))
            rng = random.Random(269)
            patterns(permuting_map(rng, size, 2), length, most=60)

    def test_refused(self):
        for size, length in [(2, 13), (3, 8), (4, 7), (2, 10 ** 30)]:
            for most in [0, 1, 10]:
                with self.assertRaises(TooLong):
                    patterns(shift_map(size, 0), length, most=most)
        for length, most in [(-1, 0), (-1, 5), (-10 ** 30, 5), (0, -1), (3, -1), (-1, -1)]:
            with self.assertRaises(OutOfRange):
                patterns(KEEP, length, most=most)
        # The range is looked at first.
        for length in [13, 10 ** 30]:
            with self.assertRaises(OutOfRange):
                patterns(KEEP, length, most=-1)


if __name__ == "__main__":
    unittest.main()

"""Points 3 and 4: the numbers of windows, and maps applied to words."""

import random
import unittest

from edenrow.maps import apply_word, new_cell
from tests.reference import number_of, random_map, words

WIDTHS = {2: [1, 2, 3, 4, 5, 12], 3: [1, 2, 3, 7], 4: [1, 2, 3, 6]}


def by_definition(one, word):
    size, _, width, table = one
    return [
        table[number_of(size, word[at:at + width])]
        for at in range(len(word) - width + 1)
    ]


class NewCellTest(unittest.TestCase):
    def test_first_cell_is_the_greatest_digit(self):
        self.assertEqual(new_cell((2, 0, 2, [0, 1, 0, 0]), [0, 1]), 1)
        self.assertEqual(new_cell((2, 0, 2, [0, 1, 0, 0]), [1, 0]), 0)
        self.assertEqual(new_cell((2, 0, 3, [0, 0, 0, 0, 1, 0, 0, 0]), [1, 0, 0]), 1)
        self.assertEqual(new_cell((3, 0, 2, [0, 0, 0, 0, 0, 2, 0, 0, 0]), [1, 2]), 2)
        self.assertEqual(new_cell((4, 0, 2, [0] * 13 + [3, 0, 0]), [3, 1]), 3)

    def test_every_window_by_its_number(self):
        for size in [2, 3, 4]:
            for width in [1, 2, 3]:
                for number, window in enumerate(words(size, width)):
                    table = [0] * size ** width
                    table[number] = size - 1
                    for other in words(size, width):
                        expected = size - 1 if other == window else 0
                        self.assertEqual(new_cell((size, 0, width, table), other), expected)

    def test_greatest_tables(self):
        rng = random.Random(1)
        for size, width in [(2, 12), (3, 7), (4, 6)]:
            one = random_map(rng, size, width)
            for number, window in enumerate(words(size, width)):
                self.assertEqual(new_cell(one, window), one[3][number])

    def test_offset_is_not_used(self):
        for offset in [-100, -1, 0, 1, 100]:
            self.assertEqual(new_cell((2, offset, 2, [0, 1, 0, 0]), [0, 1]), 1)


class ApplyWordTest(unittest.TestCase):
    def test_examples(self):
        differ = (2, 0, 2, [0, 1, 1, 0])
        self.assertEqual(apply_word(differ, [0, 0, 1, 1, 1]), [0, 1, 0, 0])
        self.assertEqual(apply_word((2, 0, 1, [1, 0]), [0, 1, 1]), [1, 0, 0])
        self.assertEqual(apply_word((3, 0, 2, [0, 1, 2] * 3), [0, 1, 2, 0]), [1, 2, 0])
        self.assertEqual(apply_word((3, 0, 2, [0, 0, 0, 1, 1, 1, 2, 2, 2]), [0, 1, 2, 0]), [0, 1, 2])

    def test_empty_word(self):
        rng = random.Random(2)
        for size in WIDTHS:
            for width in WIDTHS[size]:
                self.assertEqual(apply_word(random_map(rng, size, width), []), [])

    def test_shorter_than_the_window(self):
        rng = random.Random(3)
        for size in WIDTHS:
            for width in WIDTHS[size]:
                for length in range(width):
                    one = random_map(rng, size, width)
                    self.assertEqual(apply_word(one, [size - 1] * length), [])

    def test_as_long_as_the_window_and_longer(self):
        rng = random.Random(4)
        for size in WIDTHS:
            for width in WIDTHS[size]:
                for length in [width, width + 1, width + 2, 2 * width + 3, 60]:
                    one = random_map(rng, size, width)
                    word = [rng.randrange(size) for _ in range(length)]
                    image = apply_word(one, word)
                    self.assertEqual(len(image), length - width + 1)
                    self.assertEqual(image, by_definition(one, word))

    def test_all_short_words(self):
        rng = random.Random(5)
        for size in [2, 3]:
            for width in [1, 2, 3]:
                one = random_map(rng, size, width)
                for length in range(6):
                    for word in words(size, length):
                        self.assertEqual(apply_word(one, word), by_definition(one, word))

    def test_one_window_gives_its_new_cell(self):
        rng = random.Random(6)
        for size in [2, 3, 4]:
            one = random_map(rng, size, 3)
            for window in words(size, 3):
                self.assertEqual(apply_word(one, window), [new_cell(one, window)])

    def test_offset_is_not_used(self):
        for offset in [-100, -1, 0, 1, 100]:
            self.assertEqual(apply_word((2, offset, 2, [0, 1, 1, 0]), [0, 1, 1]), [1, 0])


if __name__ == "__main__":
    unittest.main()

"""Point 21: twins and inverses, and what is_inverse refuses."""

import random
import unittest

from edenrow.errors import TooLong
from edenrow.inverse import decide_reversible, is_inverse, is_twins
from edenrow.maps import composed, reduced, shift_map
from tests.reference import nearly_permuting_map, permuting_map, random_map, round_image_of, undoes
from tests.reference import widened, words
from tests.reversible import HALVES, HALVES_BACK, SLOW, TURN_THREE, TURN_TWO, reversible_map

DIFFER = (2, 0, 2, [0, 1, 1, 0])
BOTH = (2, 0, 2, [0, 0, 0, 1])
KEEP = (2, 0, 1, [0, 1])
SAME = (2, 0, 1, [1, 1])
SLOW_BACK = (4, -2, 3, [int(cell) for cell in "0022113300221133003311220022113300221133002211330033112200221133"])


def some_maps(seed, many):
    rng = random.Random(seed)
    for _ in range(many):
        size, width = rng.choice([(2, 1), (2, 2), (2, 3), (2, 4), (3, 1), (3, 2), (4, 1), (4, 2)])
        yield rng.choice([random_map, permuting_map, nearly_permuting_map])(rng, size, width)


class IsTwinsTest(unittest.TestCase):
    def expect(self, one, first, second, answer):
        self.assertIs(is_twins(one, first, second), answer, (one, first, second))
        self.assertIs(is_twins(one, second, first), answer, (one, second, first))

    def test_examples(self):
        self.expect(DIFFER, [0], [1], True)
        self.expect(DIFFER, [0, 1, 1], [1, 0, 0], True)
        self.expect(DIFFER, [0, 1, 1], [1, 0, 1], False)
        self.expect(BOTH, [0, 0, 0], [0, 1, 0], True)
        self.expect(BOTH, [0, 1], [1, 0], True)
        self.expect(BOTH, [0], [1], False)
        self.expect(KEEP, [0], [1], False)
        self.expect(SAME, [0], [1], True)

    def test_all_short_rows(self):
        answers = []
        maps = [DIFFER, BOTH, KEEP, SAME, TURN_TWO, HALVES, TURN_THREE] + list(some_maps(211, 40))
        for one in maps:
            for length in range(1, 6 if one[0] == 2 else 3):
                images = [(row, round_image_of(one, row)) for row in words(one[0], length)]
                for first, image in images:
                    for second, other_image in images:
                        answer = first != second and image == other_image
                        self.assertIs(is_twins(one, first, second), answer, (one, first, second))
                        answers.append(answer)
        self.assertGreater(answers.count(True), 1000)
        self.assertGreater(answers.count(False), 1000)

    def told_twins(self):
        for one in some_maps(212, 150):
            answer = decide_reversible(one)
            if answer[0] == "no":
                yield one, answer[1], answer[2]

    def test_told_ones_repeated_and_turned(self):
        checked = 0
        for one, first, second in self.told_twins():
            checked += 1
            self.expect(one, first, second, True)
            self.expect(one, first * 2, second * 2, True)
            self.expect(one, first * 5, second * 5, True)
            for at in range(len(first)):
                self.expect(one, first[at:] + first[:at], second[at:] + second[:at], True)
                turned = first[at:] + first[:at]
                same = round_image_of(one, turned) == round_image_of(one, second)
                self.expect(one, turned, second, turned != second and same)
        self.assertGreater(checked, 50)

    def test_told_ones_of_different_lengths(self):
        for one, first, second in self.told_twins():
            self.expect(one, first, second * 2, False)
            self.expect(one, first + first[:1], second, False)
            self.expect(one, first, second[:-1], False)
            self.expect(one, first, [], False)

    def test_told_ones_with_a_cell_changed(self):
        answers = []
        for one, first, second in self.told_twins():
            image = round_image_of(one, second)
            for place in range(len(first)):
                for cell in range(one[0]):
                    changed = first[:place] + [cell] + first[place + 1:]
                    answers.append(changed != second and round_image_of(one, changed) == image)
                    self.expect(one, changed, second, answers[-1])
        self.assertGreater(answers.count(False), 100)

    def test_equal_and_empty_rows(self):
        for one in [KEEP, SAME, DIFFER, BOTH, HALVES, (4, 5, 6, [2] * 4096)]:
            self.expect(one, [], [], False)
            for length in range(1, 5):
                for row in words(2, length):
                    self.expect(one, row, row, False)
                    self.expect(one, row, list(row), False)
                    self.expect(one, row, [], False)
                    # As round rows these are the same one.
                    self.expect(one, row, row * 2, False)

    def test_different_lengths(self):
        zero = (3, 0, 2, [0] * 9)
        self.expect(zero, [0, 1], [1, 0], True)
        self.expect(zero, [0, 1], [1], False)
        self.expect(zero, [0, 1], [1, 0, 1], False)
        self.expect(zero, [0], [1, 1], False)

    def test_what_is_no_cell(self):
        for cell in [-1, 2, 3, 10 ** 20]:
            self.expect(SAME, [0], [cell], False)
            self.expect(SAME, [0, 1], [cell, 0], False)
            self.expect((2, 0, 2, [0] * 4), [0, 1, 1], [0, cell, 1], False)

    def test_offsets_do_not_matter(self):
        for offset in [-100, -7, 0, 3, 100]:
            self.expect((2, offset, 2, BOTH[3]), [0, 1], [1, 0], True)
            self.expect((2, offset, 2, BOTH[3]), [0], [1], False)

    def test_is_never_refused(self):
        for size, width in [(2, 12), (3, 7), (4, 6)]:
            one = (size, 100, width, [1] * size ** width)
            self.expect(one, [0], [1], True)
            self.expect(one, [0] * 1000 + [1], [0] * 1001, True)
            last = (size, 100, width, list(range(size)) * size ** (width - 1))
            self.expect(last, [0] * 1000 + [1], [0] * 1001, False)


class IsInverseTest(unittest.TestCase):
    def expect(self, one, other, answer):
        self.assertIs(is_inverse(one, other), answer, (one, other))

    def test_examples(self):
        self.expect(KEEP, KEEP, True)
        self.expect((2, 0, 1, [1, 0]), (2, 0, 1, [1, 0]), True)
        self.expect((2, 0, 1, [1, 0]), KEEP, False)
        self.expect(shift_map(3, 5), shift_map(3, -5), True)
        self.expect(shift_map(3, 5), shift_map(3, 5), False)
        self.expect((3, 0, 1, [1, 2, 0]), (3, 0, 1, [2, 0, 1]), True)
        self.expect((3, 0, 1, [1, 2, 0]), (3, 0, 1, [1, 2, 0]), False)
        self.expect(HALVES, HALVES_BACK, True)
        self.expect(HALVES_BACK, HALVES, True)
        self.expect(HALVES, HALVES, False)
        self.expect(TURN_TWO, TURN_TWO, True)
        self.expect(TURN_THREE, TURN_THREE, True)
        self.expect(SLOW, SLOW_BACK, True)
        self.expect(SLOW_BACK, SLOW, True)
        self.expect(DIFFER, DIFFER, False)
        self.expect(SAME, SAME, False)

    def test_all_pairs_of_narrow_maps(self):
        answers = []
        maps = [(2, offset, width, table)
                for width in [1, 2]
                for table in words(2, 2 ** width)
                for offset in [-1, 0, 1]]
        for one in maps:
            for other in maps:
                answers.append(undoes(one, other))
                self.expect(one, other, answers[-1])
        self.assertGreater(answers.count(True), 20)

    def test_inverses_that_are_known(self):
        rng = random.Random(213)
        for at in range(300):
            size = 2 + at % 3
            one, back = reversible_map(rng, size, 4)
            self.expect(one, back, True)
            self.expect(back, one, True)
            if size ** (one[2] + back[2]) <= 2000:
                self.assertIs(undoes(one, back), True)

    def test_wider_forms(self):
        rng = random.Random(214)
        for at in range(60):
            one, back = reversible_map(rng, 2 + at % 3, 3)
            for before, behind in [(0, 1), (1, 0), (1, 1), (2, 0)]:
                wide = widened(back, before, behind)
                if one[0] ** (one[2] + wide[2] - 1) <= 65536 and len(wide[3]) <= 4096:
                    self.expect(one, wide, True)
                    self.expect(wide, one, True)

    def test_one_cell_changed(self):
        rng = random.Random(215)
        for at in range(60):
            one, back = reversible_map(rng, 2 + at % 3, 3)
            for other in [back, widened(back, 1, 0)]:
                for place in rng.sample(range(len(other[3])), min(4, len(other[3]))):
                    table = list(other[3])
                    table[place] = (table[place] + rng.randrange(1, one[0])) % one[0]
                    changed = other[:3] + (table,)
                    # Each word is an image, so that no cell of an inverse can be another one.
                    self.expect(one, changed, False)
                    self.expect(changed, one, False)

    def test_another_offset(self):
        rng = random.Random(216)
        for at in range(60):
            size, offset, width, table = reversible_map(rng, 2 + at % 3, 3)[0]
            back = decide_reversible((size, offset, width, table))[1]
            for change in [-100, -width, -2, -1, 1, 2, width, 100]:
                self.expect((size, offset, width, table), (size, back[1] + change, back[2], back[3]), False)
                self.expect((size, back[1] + change, back[2], back[3]), (size, offset, width, table), False)

    def test_another_size(self):
        for first in [KEEP, shift_map(3, 0), shift_map(4, 0), (2, 0, 12, [0] * 4096), (4, 0, 6, [0] * 4096)]:
            for second in [KEEP, shift_map(3, 0), shift_map(4, 0), (3, 0, 7, [0] * 2187)]:
                if first[0] != second[0]:
                    # Never refused, however wide both are.
                    self.expect(first, second, False)
                    self.expect(second, first, False)

    def test_far_offsets(self):
        for places in [100, 99, 1]:
            self.expect((2, places, 1, [1, 0]), (2, -places, 1, [1, 0]), True)
            self.expect((2, -places, 1, [1, 0]), (2, places, 1, [1, 0]), True)
            self.expect((2, places, 1, [1, 0]), (2, places, 1, [1, 0]), False)
        # The second cell of the window is the one at the place 101.
        far = (2, 100, 2, [0, 1, 0, 1])
        for offset in [-100, -99, 100]:
            self.expect(far, (2, offset, 1, [0, 1]), False)
            self.expect(far, (2, offset, 2, [0, 1, 0, 1]), False)
            self.expect(far, (2, offset, 2, [0, 0, 1, 1]), False)
        self.expect((2, 99, 2, [0, 1, 0, 1]), (2, -100, 1, [0, 1]), True)
        self.expect((2, 99, 2, [0, 1, 0, 1]), (2, -100, 2, [0, 0, 1, 1]), True)
        self.expect((2, 100, 2, [0, 0, 1, 1]), (2, -100, 1, [0, 1]), True)
        self.expect((2, -100, 3, [0, 1] * 4), (2, 98, 1, [0, 1]), True)
        self.expect((2, -100, 3, [0, 1] * 4), (2, 97, 2, [0, 1, 0, 1]), True)

    def test_wide_maps(self):
        for size, most in [(2, 12), (3, 7), (4, 6)]:
            for place in range(most):
                behind = size ** (most - 1 - place)
                table = [cell for cell in range(size) for _ in range(behind)] * size ** place
                one = (size, 3, most, table)
                self.assertEqual(reduced(one), shift_map(size, 3 + place))
                for other in [shift_map(size, -3 - place), widened(shift_map(size, -3 - place), 1, 1)]:
                    self.expect(one, other, True)
                    self.expect(other, one, True)
                    self.expect((size, 4, most, table), other, False)
        wide = widened(HALVES_BACK, 3, 1)
        self.assertEqual(len(wide[3]), 4096)
        self.expect(HALVES, wide, True)
        wide[3][1234] ^= 1
        self.expect(HALVES, wide, False)
        wide = widened(TURN_TWO, 5, 3)
        self.assertEqual(len(wide[3]), 4096)
        self.expect(TURN_TWO, wide, True)
        wide[3][4095] ^= 1
        self.expect(TURN_TWO, wide, False)

    def test_refused_above_65536_words(self):
        for size, most, width in [(2, 12, 5), (3, 7, 4), (4, 6, 3)]:
            wide = widened(shift_map(size, 0), most - 1, 0)
            fits = widened(shift_map(size, 0), 0, width - 1)
            self.expect(wide, fits, True)
            self.expect(fits, wide, True)
            for table in [[0] * size ** (width + 1), list(range(size)) * size ** width]:
                for offset in [0, -width, 100]:
                    with self.assertRaises(TooLong):
                        is_inverse(wide, (size, offset, width + 1, table))
                    with self.assertRaises(TooLong):
                        is_inverse((size, offset, width + 1, table), wide)
            with self.assertRaises(TooLong):
                is_inverse(wide, wide)

    def test_a_map_that_only_keeps_some_rows(self):
        # Each of these keeps the rows of images of the other one, but has no inverse itself.
        first = (2, 0, 2, [0, 0, 0, 1])
        self.expect(first, first, False)
        self.expect(first, KEEP, False)
        self.expect(KEEP, first, False)

    def test_compositions(self):
        one = composed(composed(TURN_TWO, shift_map(2, 3)), (2, 0, 1, [1, 0]))
        other = composed(composed((2, 0, 1, [1, 0]), shift_map(2, -3)), TURN_TWO)
        self.expect(one, other, True)
        self.expect(other, one, True)
        self.expect(one, TURN_TWO, False)


if __name__ == "__main__":
    unittest.main()

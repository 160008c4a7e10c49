"""Points 21 and 22: the answer whether a map is reversible, its evidence, and where it is refused."""

import random
import unittest

from edenrow.errors import TooLong
from edenrow.inverse import decide_reversible, is_inverse, is_twins
from edenrow.maps import narrowed, reduced, same_map, shift_map
from edenrow.pairs import least_diamond
from tests.reference import has_inverse, inverse_by_search, nearly_permuting_map, number_of, permuting_map
from tests.reference import random_map, round_image_of, tables, widened, words
from tests.reversible import HALVES, HALVES_BACK, SLOW, TURN_THREE, TURN_TWO, reversible_map

DIFFER = (2, 0, 2, [0, 1, 1, 0])
# The greatest widths with at most 150 states.
GREATEST = {2: 8, 3: 5, 4: 4}


def read(offset, width, text):
    """A map of size 4 from the text of its cells."""
    return (4, offset, width, [int(cell) for cell in text])


# Compositions of maps like SLOW, by their width and the width of the inverse.
THREE_SIX = read(0, 3, "0000000023223222331111111233213300001111323323332211000013223122")
THREE_SEVEN = read(0, 3, "2200002223223211110000333133131133000022121121332200002213113133")
FOUR_FIVE = read(0, 4, (
    "1111111111111111000022222222222200002000333333333333333302000022"
    "1111111111111111111122222222222200001111020000220000200011111111"
    "3333333333333333333322222222222200003333020000220000200033333333"
    "1111111111111111333322222222222200003333020000220000200033333333"
))
FOUR_SIX = read(0, 4, (
    "2222212111112222333320203333000000000202000022220000121200002222"
    "2222212111112222333320203333000000001212000022220000020200002222"
    "3333313111113333222230302222000011111313111133331111030311113333"
    "3333313111113333222230302222000011111313111133331111030311113333"
))


class AnswerTest(unittest.TestCase):
    def check(self, one):
        """Look at the evidence alone, and tell the answer."""
        answer = decide_reversible(one)
        if answer[0] == "yes":
            self.check_inverse(one, answer)
        else:
            self.check_twins(one, answer)
        return answer[0]

    def check_inverse(self, one, answer):
        self.assertEqual(len(answer), 2)
        inverse = answer[1]
        self.assertEqual(narrowed(inverse), inverse)
        self.assertIs(is_inverse(one, inverse), True)
        self.assertIs(is_inverse(inverse, one), True)

    def check_twins(self, one, answer):
        word, first, second = answer
        self.assertEqual(word, "no")
        self.assertEqual(len(first), len(second))
        self.assertLess(first, second)
        self.assertEqual(round_image_of(one, first), round_image_of(one, second))
        self.assertIs(is_twins(one, first, second), True)

    def test_examples(self):
        self.assertEqual(decide_reversible((2, 0, 1, [0, 1])), ("yes", (2, 0, 1, [0, 1])))
        self.assertEqual(decide_reversible((2, 5, 1, [1, 0])), ("yes", (2, -5, 1, [1, 0])))
        self.assertEqual(decide_reversible((4, 0, 1, [1, 2, 3, 0])), ("yes", (4, 0, 1, [3, 0, 1, 2])))
        self.assertEqual(decide_reversible((2, 0, 2, [0, 1, 0, 1])), ("yes", (2, -1, 1, [0, 1])))
        self.assertEqual(decide_reversible((2, 0, 2, [1, 1, 0, 0])), ("yes", (2, 0, 1, [1, 0])))
        self.assertEqual(decide_reversible(HALVES), ("yes", HALVES_BACK))
        self.assertEqual(decide_reversible(HALVES_BACK), ("yes", HALVES))
        self.assertEqual(decide_reversible(TURN_TWO), ("yes", TURN_TWO))
        self.assertEqual(decide_reversible(TURN_THREE), ("yes", TURN_THREE))
        self.assertEqual(decide_reversible((2, 0, 1, [1, 1])), ("no", [0], [1]))

    def test_elementary_rules(self):
        found = []
        for rule in range(256):
            one = (2, -1, 3, [rule >> number & 1 for number in range(8)])
            if self.check(one) == "yes":
                found.append(rule)
        self.assertEqual(found, [15, 51, 85, 170, 204, 240])

    def test_all_small_tables(self):
        counts = {}
        for size, width in [(2, 1), (2, 2), (2, 3), (3, 1), (4, 1)]:
            counts[size, width] = 0
            for table in tables(size, width):
                one = (size, 1, width, table)
                answer = self.check(one)
                self.assertEqual(answer == "yes", has_inverse(one))
                counts[size, width] += answer == "yes"
        self.assertEqual(counts, {(2, 1): 2, (2, 2): 4, (2, 3): 6, (3, 1): 6, (4, 1): 24})

    def test_random_maps(self):
        rng = random.Random(221)
        for _ in range(300):
            size, width = rng.choice([(2, 3), (2, 4), (2, 5), (3, 2), (3, 3), (4, 2)])
            one = rng.choice([random_map, permuting_map, nearly_permuting_map])(rng, size, width)
            self.assertEqual(self.check(one) == "yes", has_inverse(one))

    def test_maps_that_are_known_to_be_reversible(self):
        rng = random.Random(222)
        widths = {}
        for at in range(400):
            one, back = reversible_map(rng, 2 + at % 3, 6)
            self.assertEqual(decide_reversible(one), ("yes", back))
            self.check_inverse(one, ("yes", back))
            widths[one[0], back[2]] = True
        for key in [(2, 1), (2, 4), (2, 7), (3, 1), (3, 2), (3, 3), (4, 1), (4, 2), (4, 3), (4, 4)]:
            self.assertIn(key, widths)

    def test_no_shorter_window_tells_the_inverse(self):
        rng = random.Random(223)
        checked = 0
        for at in range(60):
            one, back = reversible_map(rng, 2 + at % 3, 3)
            if one[0] ** (one[2] + back[2]) <= 1100:
                checked += 1
                self.assertEqual(decide_reversible(one), ("yes", inverse_by_search(one, back[2])))
        self.assertGreater(checked, 20)
        self.assertEqual(decide_reversible(SLOW), ("yes", inverse_by_search(SLOW, 3)))

    def test_one_cell_away_from_a_reversible_map(self):
        rng = random.Random(224)
        for at in range(150):
            one, _ = reversible_map(rng, 2 + at % 3, 4)
            place = rng.randrange(len(one[3]))
            one[3][place] = (one[3][place] + rng.randrange(1, one[0])) % one[0]
            # The cells of the table are not equally many any more.
            self.assertEqual(self.check(one), "no")

    def test_two_cells_exchanged_in_a_reversible_map(self):
        rng = random.Random(225)
        answers = []
        for at in range(150):
            one, _ = reversible_map(rng, 2 + at % 3, 3)
            if one[0] ** one[2] > 300:
                continue
            first, second = rng.sample(range(len(one[3])), 2)
            one[3][first], one[3][second] = one[3][second], one[3][first]
            answers.append(self.check(one))
            self.assertEqual(answers[-1] == "yes", has_inverse(one))
        self.assertIn("yes", answers)
        self.assertIn("no", answers)

    def test_twins_where_there_is_no_diamond(self):
        rng = random.Random(226)
        checked = 0
        for _ in range(200):
            size, width = rng.choice([(2, 2), (2, 3), (2, 5), (2, 8), (3, 2), (3, 3), (3, 5), (4, 2), (4, 4)])
            one = permuting_map(rng, size, width)
            self.assertIsNone(least_diamond(one))
            checked += self.check(one) == "no"
        self.assertGreater(checked, 150)
        self.assertEqual(self.check(DIFFER), "no")

    def test_states_that_come_back_turned(self):
        # Each row of these twins is the other one, moved: their states change sides on the way round.
        found = 0
        for table in tables(3, 2):
            one = (3, 0, 2, table)
            if [table.count(cell) for cell in range(3)] == [3, 3, 3] and least_diamond(one) is None:
                answer = decide_reversible(one)
                if answer[0] == "no":
                    self.check_twins(one, answer)
                    half = len(answer[1]) // 2
                    found += answer[1][half:] + answer[1][:half] == answer[2]
        self.assertGreater(found, 10)

    def test_both_orders_and_all_forms(self):
        rng = random.Random(227)
        for at in range(60):
            one, back = reversible_map(rng, 2 + at % 3, 2)
            self.assertEqual(decide_reversible(reduced(one)), ("yes", back))
            self.assertEqual(decide_reversible(back), ("yes", reduced(one)))
            for before, behind in [(0, 1), (1, 0), (1, 1)]:
                wide = widened(one, before, behind)
                if len(wide[3]) <= 128 and wide[0] ** (wide[2] + back[2] - 1) <= 65536:
                    self.assertEqual(decide_reversible(wide), ("yes", back))

    def test_offsets(self):
        for offset in range(-100, 99, 9):
            answer = decide_reversible((2, offset, 4, TURN_TWO[3]))
            self.assertEqual(answer, ("yes", (2, -2 - offset, 4, TURN_TWO[3])))
        for offset in [-100, 0, 100]:
            self.check_twins(DIFFER, decide_reversible((2, offset, 2, DIFFER[3])))

    def test_long_answers(self):
        rng = random.Random(228)
        for size, width in GREATEST.items():
            for _ in range(4):
                self.check(nearly_permuting_map(rng, size, width))
                self.check(permuting_map(rng, size, width))
                self.check(random_map(rng, size, width))


class RefusalTest(unittest.TestCase):
    def refused(self, one):
        with self.assertRaises(TooLong):
            decide_reversible(one)

    def test_too_many_states(self):
        for size, most in GREATEST.items():
            for width in [most + 1, most + 2]:
                self.refused((size, 0, width, [0] * size ** width))
                self.refused((size, 0, width, list(range(size)) * size ** (width - 1)))
            one = widened(shift_map(size, 3), 1, most - 2)
            self.assertEqual(decide_reversible(one), ("yes", shift_map(size, -3)))
            self.refused(widened(shift_map(size, 3), 1, most - 1))
            self.assertEqual(decide_reversible((size, 0, most, [0] * size ** most))[0], "no")

    def test_the_table_of_the_inverse(self):
        # 4 ** 6 cells are just not too many, 4 ** 7 are.
        answer = decide_reversible(THREE_SIX)
        self.assertEqual(answer[1][:3], (4, -2, 6))
        self.assertEqual(len(answer[1][3]), 4096)
        self.assertIs(is_inverse(THREE_SIX, answer[1]), True)
        self.assertIs(is_inverse(answer[1], THREE_SIX), True)
        self.assertEqual(narrowed(answer[1]), answer[1])
        self.assertTrue(self.differs_everywhere(THREE_SEVEN, 6))
        self.refused(THREE_SEVEN)

    def test_the_words_of_both(self):
        # 4 ** (5 + 4 - 1) words are just not too many, 4 ** (6 + 4 - 1) are.
        answer = decide_reversible(FOUR_FIVE)
        self.assertEqual(answer[1][2], 5)
        self.assertIs(is_inverse(FOUR_FIVE, answer[1]), True)
        self.assertIs(is_inverse(answer[1], FOUR_FIVE), True)
        self.assertTrue(self.differs_everywhere(FOUR_SIX, 5))
        self.refused(FOUR_SIX)
        # The width is that of the map as it is passed.
        self.assertEqual(decide_reversible(THREE_SIX)[0], "yes")
        self.refused(widened(THREE_SIX, 0, 1))
        self.refused(widened(THREE_SIX, 1, 0))
        self.assertEqual(decide_reversible(widened(SLOW, 1, 1))[0], "yes")

    def differs_everywhere(self, one, length):
        """Whether so many cells of an image tell no cell of the row at all."""
        size, _, width, table = one
        firsts = {}
        open_places = set(range(length + width - 1))
        for word in words(size, length + width - 1):
            image = tuple(table[number_of(size, word[at:at + width])] for at in range(length))
            first = firsts.setdefault(image, word)
            if open_places:
                open_places -= {place for place in open_places if first[place] != word[place]}
        return not open_places

    def test_the_offset_of_the_inverse(self):
        self.assertEqual(decide_reversible((2, 100, 1, [1, 0])), ("yes", (2, -100, 1, [1, 0])))
        self.assertEqual(decide_reversible((2, -100, 1, [1, 0])), ("yes", (2, 100, 1, [1, 0])))
        self.assertEqual(decide_reversible((2, 99, 2, [0, 1, 0, 1])), ("yes", (2, -100, 1, [0, 1])))
        self.assertEqual(decide_reversible((2, 100, 2, [0, 0, 1, 1])), ("yes", (2, -100, 1, [0, 1])))
        self.refused((2, 100, 2, [0, 1, 0, 1]))
        self.refused((2, 99, 3, [0, 1] * 4))
        self.assertEqual(decide_reversible((4, 98, 2, SLOW[3]))[1][:3], (4, -100, 3))
        self.refused((4, 99, 2, SLOW[3]))
        self.assertEqual(decide_reversible((2, 98, 4, TURN_TWO[3]))[1], (2, -100, 4, TURN_TWO[3]))
        self.refused((2, 99, 4, TURN_TWO[3]))
        self.assertEqual(decide_reversible((4, -100, 2, HALVES[3]))[1], (4, 99, 2, HALVES_BACK[3]))

    def test_twins_are_never_refused_for_the_offset(self):
        self.assertEqual(decide_reversible((2, 100, 1, [1, 1])), ("no", [0], [1]))
        self.assertEqual(decide_reversible((2, 100, 2, DIFFER[3]))[0], "no")


class OneInverseTest(unittest.TestCase):
    def test_all_inverses_have_the_same_reduced_form(self):
        rng = random.Random(229)
        for at in range(60):
            one, back = reversible_map(rng, 2 + at % 3, 3)
            told = decide_reversible(one)[1]
            self.assertIs(same_map(told, back), True)
            wide = widened(back, 1, 1)
            self.assertEqual(reduced(wide), told)


if __name__ == "__main__":
    unittest.main()

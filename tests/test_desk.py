"""Points 29 and 30: desks, their commands, and what they refuse."""

import random
import unittest

from edenrow.desk import Desk
from edenrow.errors import BadCommand, BadMap, OutOfRange, RowError, TooLong
from edenrow.inverse import decide_reversible
from edenrow.maps import apply_word, power, shift_map
from edenrow.pairs import decide_finite
from edenrow.reach import decide_reach
from edenrow.sums import kept_sums
from tests.reference import nearly_permuting_map, permuting_map, random_map, round_image_of
from tests.reversible import HALVES, SLOW, TURN_TWO, reversible_map

DIFFER = (2, 0, 2, [0, 1, 1, 0])
BOTH = (2, 0, 2, [0, 0, 0, 1])
FIRST = (2, 0, 2, [0, 0, 1, 1])
RULE_110 = (2, -1, 3, [0, 1, 1, 1, 0, 1, 1, 0])
# Its image machine has 256 states.
GREAT = (2, 0, 9, [0, 1] * 256)

GOOD = ["reach", "finite", "reverse", "sums 1", "image 0 1 1", "after 2 0 1 1", "power 1"]


def text_of(cells):
    return "".join(map(str, cells))


def map_text(one):
    return f"{one[1]} {one[2]} {text_of(one[3])}"


def some_maps(seed, many):
    rng = random.Random(seed)
    for at in range(many):
        if at % 3 == 0:
            yield reversible_map(rng, rng.choice([2, 3, 4]), 2)[0]
        else:
            size, width = rng.choice([(2, 1), (2, 2), (2, 3), (2, 4), (3, 1), (3, 2), (4, 1), (4, 2)])
            yield rng.choice([random_map, permuting_map, nearly_permuting_map])(rng, size, width)


class AnswersTest(unittest.TestCase):
    def test_examples(self):
        desk = Desk(DIFFER)
        self.assertEqual(desk.ask("reach"), "yes 1")
        self.assertEqual(desk.ask("finite"), "yes 0")
        self.assertEqual(desk.ask("reverse"), "no")
        self.assertEqual(desk.ask("sums 1"), "1")
        self.assertEqual(desk.ask("image 0 0 1 1 1"), "0100")
        self.assertEqual(desk.ask("image 1"), "-")
        self.assertEqual(desk.ask("after 0 0 0 1"), "001")
        self.assertEqual(desk.ask("after 1 0 0 1"), "011")
        self.assertEqual(desk.ask("after 1 1"), "0")
        self.assertEqual(desk.ask("power 2"), "0 3 01011010")
        self.assertEqual(desk.ask("image 1 0 1"), "0")
        self.assertEqual(desk.ask("power 0"), "0 1 01")
        self.assertEqual(desk.ask("reach"), "yes 1")
        self.assertEqual(desk.ask("reverse"), "yes 0 1 01")

    def test_other_answers(self):
        self.assertEqual(Desk(BOTH).ask("reach"), "no 101")
        self.assertEqual(Desk(BOTH).ask("finite"), "no 000 010")
        self.assertEqual(Desk(FIRST).ask("finite"), "yes 1")
        self.assertEqual(Desk((2, 0, 2, [0, 1, 0, 1])).ask("reach"), "yes 3")
        self.assertEqual(Desk((2, 0, 1, [1, 1])).ask("reach"), "no 0")
        self.assertEqual(Desk((2, 0, 1, [1, 1])).ask("finite"), "no 0 1")
        self.assertEqual(Desk((2, 0, 1, [1, 1])).ask("reverse"), "no")
        self.assertEqual(Desk(RULE_110).ask("reach"), "no 01010")
        self.assertEqual(Desk(shift_map(3, 7)).ask("reverse"), "yes -7 1 012")
        self.assertEqual(Desk(shift_map(3, -7)).ask("reverse"), "yes 7 1 012")
        self.assertEqual(Desk(HALVES).ask("reverse"), "yes -1 2 0022113300221133")
        self.assertEqual(Desk(shift_map(4, -2)).ask("power 50"), "-100 1 0123")
        self.assertEqual(Desk(shift_map(2, 0)).ask("sums 6"), "33")
        self.assertEqual(Desk(shift_map(4, 0)).ask("sums 4"), "193")

    def test_as_the_functions_answer(self):
        rng = random.Random(271)
        for one in some_maps(272, 200):
            desk = Desk(one)
            answer, *evidence = decide_reach(one)
            told = str(len(evidence[0])) if answer == "yes" else text_of(evidence[0])
            self.assertEqual(desk.ask("reach"), f"{answer} {told}")
            answer, *evidence = decide_finite(one)
            told = str(len(evidence[0])) if answer == "yes" else " ".join(map(text_of, evidence))
            self.assertEqual(desk.ask("finite"), f"{answer} {told}")
            answer, *evidence = decide_reversible(one)
            expected = f"yes {map_text(evidence[0])}" if answer == "yes" else "no"
            self.assertEqual(desk.ask("reverse"), expected)
            for length in [1, 2]:
                if one[0] ** (length + one[2] - 1) <= 512:
                    self.assertEqual(desk.ask(f"sums {length}"), str(len(kept_sums(one, length))))
            cells = [rng.randrange(one[0]) for _ in range(rng.randint(1, 9))]
            word = " ".join(map(str, cells))
            self.assertEqual(desk.ask(f"image {word}"), text_of(apply_word(one, cells)) or "-")
            steps = rng.choice([0, 1, 2, 3, 17])
            self.assertEqual(desk.ask(f"after {steps} {word}"), text_of(self.row_after(one, cells, steps)))
            self.check_power(desk, one, rng.randint(0, 3))

    def row_after(self, one, cells, steps):
        for _ in range(steps):
            cells = round_image_of(one, cells)
        return cells

    def check_power(self, desk, one, exponent):
        try:
            expected = power(one, exponent)
        except OutOfRange:
            with self.assertRaises(OutOfRange):
                desk.ask(f"power {exponent}")
            expected = one
        else:
            self.assertEqual(desk.ask(f"power {exponent}"), map_text(expected))
        word = " ".join(["1"] * 20)
        self.assertEqual(desk.ask(f"image {word}"), text_of(apply_word(expected, [1] * 20)))

    def test_powers_follow_on_each_other(self):
        desk = Desk(shift_map(2, 3))
        for exponent, offset in [(2, 6), (2, 12), (3, 36), (1, 36), (2, 72), (0, 0), (5, 0)]:
            self.assertEqual(desk.ask(f"power {exponent}"), f"{offset} 1 01")
        desk = Desk((3, 2, 1, [1, 2, 0]))
        self.assertEqual(desk.ask("power 2"), "4 1 201")
        self.assertEqual(desk.ask("power 2"), "8 1 120")

    def test_a_power_of_1_is_reduced(self):
        desk = Desk((2, 5, 2, [0, 1, 0, 1]))
        self.assertEqual(desk.ask("image 0 1 1"), "11")
        self.assertEqual(desk.ask("power 1"), "6 1 01")
        self.assertEqual(desk.ask("image 0 1 1"), "011")

    def test_many_steps_and_long_rows(self):
        self.assertEqual(Desk(shift_map(2, 1)).ask("after 1000 0 0 1"), "010")
        self.assertEqual(Desk(shift_map(2, 100)).ask("after 999 0 0 1"), "001")
        self.assertEqual(Desk((4, 0, 1, [1, 2, 3, 0])).ask("after 1000 3 2 1 0"), "3210")
        self.assertEqual(Desk((4, 0, 1, [1, 2, 3, 0])).ask("power 1000"), "0 1 0123")
        self.assertEqual(Desk((4, 0, 1, [1, 2, 3, 0])).ask("power 999"), "0 1 3012")
        cells = [at * at % 7 % 2 for at in range(300)]
        row = " ".join(map(str, cells))
        self.assertEqual(Desk(TURN_TWO).ask(f"after 1000 {row}"), text_of(cells))
        self.assertEqual(Desk(DIFFER).ask(f"image {row}"), text_of(apply_word(DIFFER, cells)))
        self.assertEqual(Desk(DIFFER).ask("after 1000 1"), "0")

    def test_questions_change_nothing(self):
        for one in some_maps(273, 40):
            desk = Desk(one)
            first = [desk.ask(command) for command in GOOD[:6]]
            self.assertEqual([desk.ask(command) for command in GOOD[:6]], first)
            self.assertEqual([Desk(one).ask(command) for command in GOOD[:6]], first)

    def test_two_desks_of_one_map(self):
        first, second = Desk(DIFFER), Desk(DIFFER)
        self.assertEqual(first.ask("power 2"), "0 3 01011010")
        self.assertEqual(second.ask("power 3"), map_text(power(DIFFER, 3)))
        self.assertEqual(first.ask("power 1"), "0 3 01011010")
        self.assertEqual(DIFFER, (2, 0, 2, [0, 1, 1, 0]))


class BadCommandTest(unittest.TestCase):
    def refused(self, one, command):
        desk = Desk(one)
        before = [desk.ask("image 0 1 0 0 1 1 1 0 1 0"), desk.ask("after 3 0 1 1 0 1")]
        with self.assertRaises(BadCommand, msg=command):
            desk.ask(command)
        self.assertEqual([desk.ask("image 0 1 0 0 1 1 1 0 1 0"), desk.ask("after 3 0 1 1 0 1")], before)

    def test_empty_commands_and_words(self):
        for command in ["", " ", "  ", "\n", " reach", "reach ", "  reach", "sums  1", "sums 1 ", "image 0  1",
                        "after  1 0", "after 1 0 ", " power 1", "power 1  "]:
            self.refused(DIFFER, command)

    def test_unknown_words(self):
        for command in ["Reach", "REACH", "reachs", "reac", "0", "1 2", "yes", "-", "help", "reach\n", "\treach",
                        "sums\t1", "image\n0", "reach,finite", "one", "ask", "__init__", "Power 1", "~", "!",
                        "twins", "inverse", "append 1", "orphan", "diamond"]:
            self.refused(DIFFER, command)

    def test_wrong_numbers_of_words(self):
        for command in ["reach 1", "reach reach", "finite 0", "finite 0 1", "reverse 1", "reverse yes", "sums",
                        "sums 1 1", "sums 1 0 1", "image", "after", "after 1", "after 0", "power", "power 1 1",
                        "power 0 0 0"]:
            self.refused(DIFFER, command)

    def test_words_that_are_no_numbers(self):
        bad = ["x", "-1", "+1", "-0", "00", "01", "007", "1.0", "1e1", "0x1", "1_0", "1,", "a1", "one", "--1",
               "1000000", "0000001", "1" * 50, "\u0661", "\u00b2", "\uff11", "1\n", "\t1", "0\u00a0"]
        for word in bad:
            for command in [f"sums {word}", f"power {word}", f"after {word} 0 1", f"after 1 {word}",
                            f"after 1 0 {word} 0", f"image {word}", f"image 0 {word}", f"image {word} 1 1"]:
                self.refused(DIFFER, command)

    def test_what_is_no_cell(self):
        for size in [2, 3, 4]:
            one = shift_map(size, 0)
            for cell in [size, size + 1, 9, 10, 999999]:
                for command in [f"image {cell}", f"image 0 {cell}", f"image {cell} 0 0", f"after 1 {cell}",
                                f"after 0 0 {cell} 1", f"after 1000 0 1 {cell}"]:
                    self.refused(one, command)
            self.assertEqual(Desk(one).ask(f"image {size - 1} 0"), f"{size - 1}0")
            self.assertEqual(Desk(one).ask(f"after 1 {size - 1} 0"), f"{size - 1}0")

    def test_numbers_beyond_their_bounds(self):
        for command in ["sums 0", "sums 7", "sums 10", "sums 999999", "power 1001", "power 999999", "after 1001 0",
                        "after 999999 0 1"]:
            self.refused(DIFFER, command)
        self.assertEqual(Desk(shift_map(2, 0)).ask("power 1000"), "0 1 01")
        self.assertEqual(Desk(shift_map(2, 0)).ask("after 1000 1"), "1")
        self.assertEqual(Desk(shift_map(2, 0)).ask("sums 6"), "33")

    def test_bad_commands_are_found_first(self):
        # Each good form of these commands is refused by a function.
        desk = Desk(GREAT)
        for command in ["reverse 1", "finite 1", "sums 7", "sums 0", "sums x", "sums 6 1", "power 1001", "power 7 1",
                        "power 07", "finite ", "reverse  "]:
            with self.assertRaises(BadCommand):
                desk.ask(command)
        desk = Desk((4, 60, 6, [0, 1, 2, 3] * 1024))
        for command in ["power 1001", "power 2 2", "sums 9"]:
            with self.assertRaises(BadCommand):
                desk.ask(command)


class RefusedTest(unittest.TestCase):
    def test_bad_maps(self):
        for one in [(1, 0, 1, [0]), (5, 0, 1, [0] * 5), (2, 101, 1, [0, 1]), (2, -101, 1, [0, 1]), (2, 0, 0, [0]),
                    (2, 0, 2, [0, 1, 1]), (2, 0, 1, [0, 2]), (2, 0, 1, [0, -1]), (2, 0, 13, [0] * 8192)]:
            with self.assertRaises(BadMap):
                Desk(one)

    def test_what_functions_refuse(self):
        desk = Desk(GREAT)
        before = desk.ask("image 0 1 0 0 1 1 1 0 1 0 1 1")
        for command, error in [("finite", TooLong), ("reverse", TooLong), ("sums 2", TooLong)]:
            with self.assertRaises(error):
                desk.ask(command)
            self.assertEqual(desk.ask("image 0 1 0 0 1 1 1 0 1 0 1 1"), before)
        self.assertEqual(desk.ask("sums 1"), str(len(kept_sums(GREAT, 1))))
        with self.assertRaises(TooLong):
            Desk((4, 99, 2, SLOW[3])).ask("reverse")
        rng = random.Random(274)
        with self.assertRaises(TooLong):
            Desk(permuting_map(rng, 2, 12)).ask("reach")

    def test_powers_that_are_refused_change_nothing(self):
        for one, exponent in [(DIFFER, 12), (RULE_110, 1000), (shift_map(2, 30), 4), (shift_map(3, -1), 101)]:
            desk = Desk(one)
            with self.assertRaises(OutOfRange):
                desk.ask(f"power {exponent}")
            self.assertEqual(desk.ask("power 1"), map_text(power(one, 1)))
        desk = Desk((2, 100, 2, [0, 1, 0, 1]))
        for exponent in [1, 2, 1000]:
            with self.assertRaises(OutOfRange):
                desk.ask(f"power {exponent}")
            self.assertEqual(desk.ask("image 0 1 1"), "11")
        self.assertEqual(desk.ask("power 0"), "0 1 01")
        self.assertEqual(desk.ask("image 0 1 1"), "011")

    def test_every_exception_is_a_row_error(self):
        rng = random.Random(275)
        parts = ["reach", "finite", "reverse", "sums", "image", "after", "power", "0", "1", "2", "3", "12", "1000",
                 "07", "x", "", "-1"]
        for one in list(some_maps(276, 20)) + [GREAT]:
            desk = Desk(one)
            for _ in range(60):
                command = " ".join(rng.choice(parts) for _ in range(rng.randint(1, 4)))
                try:
                    self.assertIsInstance(desk.ask(command), str)
                except RowError as error:
                    self.assertIn(error.__class__, (BadCommand, OutOfRange, TooLong))


class CopyTest(unittest.TestCase):
    def test_the_owner_changes_the_map(self):
        table = [0, 1, 1, 0]
        desk = Desk((2, 0, 2, table))
        table[:] = [0, 0, 0, 1]
        self.assertEqual(desk.ask("reach"), "yes 1")
        table.clear()
        self.assertEqual(desk.ask("image 0 1 1"), "10")
        table.extend([9] * 100)
        self.assertEqual(desk.ask("power 2"), "0 3 01011010")
        self.assertEqual(table, [9] * 100)

    def test_a_power_does_not_change_the_map_of_the_owner(self):
        table = [0, 1, 1, 0]
        one = (2, 0, 2, table)
        desk = Desk(one)
        for command in GOOD + ["power 3", "power 0"]:
            desk.ask(command)
            self.assertEqual(one, (2, 0, 2, [0, 1, 1, 0]))
            self.assertIs(one[3], table)


if __name__ == "__main__":
    unittest.main()

"""Points 1, 14, 18 and 21: what the answers about one map say of one another."""

import random
import unittest

from edenrow.desk import Desk
from edenrow.errors import TooLong
from edenrow.inverse import decide_reversible, is_inverse, is_twins
from edenrow.machines import image_machine, least_lost
from edenrow.maps import composed, reduced, same_map, shift_map
from edenrow.pairs import decide_finite, is_diamond, is_diamond_table
from edenrow.reach import decide_reach, is_orphan, is_reach_table
from edenrow.rows import round_image, spread_image, spread_simple
from edenrow.sums import flow_of, kept_sums, sum_over
from tests.reference import nearly_permuting_map, permuting_map, random_map, tables
from tests.reversible import reversible_map


def some_maps(seed, many):
    rng = random.Random(seed)
    for at in range(many):
        if at % 3 == 0:
            yield reversible_map(rng, rng.choice([2, 3, 4]), 3)[0]
        else:
            size, width = rng.choice([(2, 2), (2, 3), (2, 4), (2, 5), (3, 2), (3, 3), (4, 1), (4, 2)])
            yield rng.choice([random_map, permuting_map, nearly_permuting_map])(rng, size, width)


class WholeTest(unittest.TestCase):
    def check(self, one):
        """Look at all evidence with the judges, and return the three answers."""
        reach, finite, reverse = decide_reach(one), decide_finite(one), decide_reversible(one)
        if reach[0] == "yes":
            self.assertIs(is_reach_table(one, reach[1]), True)
            self.assertIs(is_diamond_table(one, finite[1]), True)
        else:
            self.assertIs(is_orphan(one, reach[1]), True)
            self.assertEqual(reach[1], least_lost(image_machine(one)))
            self.assertIs(is_diamond(one, finite[1], finite[2]), True)
            # As round rows the words of a diamond are twins.
            self.assertIs(is_twins(one, finite[1], finite[2]), True)
        if reverse[0] == "yes":
            self.assertIs(is_inverse(one, reverse[1]), True)
            self.assertIs(is_inverse(reverse[1], one), True)
        else:
            self.assertIs(is_twins(one, reverse[1], reverse[2]), True)
        # A map has no diamond exactly if it reaches every row, and a reversible map does.
        self.assertEqual(reach[0], finite[0])
        if reverse[0] == "yes":
            self.assertEqual(reach[0], "yes")
        return reach[0] + " " + reverse[0]

    def test_all_small_tables(self):
        counts = {}
        for size, width in [(2, 1), (2, 2), (2, 3), (3, 1), (4, 1)]:
            for table in tables(size, width):
                answer = self.check((size, 0, width, table))
                counts[size, answer] = counts.get((size, answer), 0) + 1
        self.assertEqual(counts[2, "yes yes"], 12)
        self.assertEqual(counts[2, "yes no"], 26)
        self.assertEqual(counts[3, "yes yes"], 6)
        self.assertEqual(counts[4, "yes yes"], 24)

    def test_random_maps(self):
        counts = {}
        for one in some_maps(281, 300):
            answer = self.check(one)
            counts[answer] = counts.get(answer, 0) + 1
        for answer in ["yes yes", "yes no", "no no"]:
            self.assertGreater(counts[answer], 30)
        self.assertEqual(len(counts), 3)

    def test_an_inverse_runs_rows_backwards(self):
        rng = random.Random(282)
        for at in range(60):
            one, _ = reversible_map(rng, 2 + at % 3, 3)
            back = decide_reversible(one)[1]
            for _ in range(5):
                cells = [rng.randrange(one[0]) for _ in range(rng.randint(1, 12))]
                self.assertEqual(round_image(back, round_image(one, cells)), cells)
                self.assertEqual(round_image(one, round_image(back, cells)), cells)
                row = spread_simple((rng.randrange(one[0]), rng.randint(-20, 20), cells))
                self.assertEqual(spread_image(back, spread_image(one, row)), row)
                self.assertEqual(spread_image(one, spread_image(back, row)), row)
            if len(one[3]) * len(back[3]) <= 4096 * one[0]:
                self.assertIs(same_map(composed(one, back), shift_map(one[0], 0)), True)
            self.assertEqual(decide_reversible(back), ("yes", reduced(one)))

    def test_kept_sums_stay_also_backwards(self):
        rng = random.Random(283)
        for at in range(40):
            one, back = reversible_map(rng, 2 + at % 3, 2)
            size = one[0]
            length = 2
            if size ** (length + max(one[2], back[2]) - 1) > 512:
                length = 1
            if size ** (length + max(one[2], back[2]) - 1) > 512:
                continue
            found = kept_sums(one, length)
            self.assertEqual(kept_sums(back, length), found)
            for measure in found:
                self.assertIsNotNone(flow_of(back, measure))
                row = [rng.randrange(size) for _ in range(9)]
                self.assertEqual(sum_over(size, measure, round_image(one, row)), sum_over(size, measure, row))

    def test_refused_for_the_same_number_of_states(self):
        for size, most in {2: 8, 3: 5, 4: 4}.items():
            for width, refused in [(most, False), (most + 1, True)]:
                one = (size, 0, width, list(range(size)) * size ** (width - 1))
                for decide in [decide_finite, decide_reversible]:
                    if refused:
                        with self.assertRaises(TooLong):
                            decide(one)
                    else:
                        self.assertEqual(decide(one)[0], "yes")
                self.assertEqual(decide_reach(one)[0], "yes")

    def test_a_desk_says_the_same(self):
        for one in some_maps(284, 60):
            desk = Desk(one)
            reach = desk.ask("reach").split(" ")
            finite = desk.ask("finite").split(" ")
            reverse = desk.ask("reverse").split(" ")
            self.assertEqual(reach[0], finite[0])
            self.assertIn((reach[0], reverse[0]), [("yes", "yes"), ("yes", "no"), ("no", "no")])


if __name__ == "__main__":
    unittest.main()

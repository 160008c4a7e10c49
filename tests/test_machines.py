"""Points 9 to 13: trimming, reading, least words, image machines, searches."""

import random
import unittest

from edenrow.errors import OutOfRange, TooLong
from edenrow.machines import (
    check_machine,
    image_machine,
    least_lost,
    least_other,
    reads,
    same_rows,
    states_after,
    trimmed,
)
from tests.reference import (
    ends_of_paths,
    image_arrows,
    is_read,
    least_word,
    random_machine,
    random_map,
    sets_reached,
    trimmed_by_rounds,
    words,
)

# The rows without two 1 side by side; the state tells the cell before.
SPARSE = (2, 2, [(0, 0, 0), (0, 1, 1), (1, 0, 0)])
# The rows without an odd number of 1 between two 0.
EVEN = (2, 2, [(0, 0, 0), (0, 1, 1), (1, 1, 0)])
FULL = {size: (size, 1, [(0, cell, 0) for cell in range(size)]) for size in [2, 3, 4]}
NOTHING = {size: (size, 0, []) for size in [2, 3, 4]}


def small_machines():
    """All machines of the size 2 with at most two states."""
    for states in range(3):
        arrows = [(s, c, t) for s in range(states) for c in range(2) for t in range(states)]
        for chosen in range(2 ** len(arrows)):
            yield (2, states, [arrow for at, arrow in enumerate(arrows) if chosen >> at & 1])


def random_machines(seed, many):
    rng = random.Random(seed)
    for _ in range(many):
        states = rng.randint(1, 7)
        yield random_machine(rng, rng.randint(2, 4), states, rng.randint(0, 5 * states))


def wheels(size, lengths, tail):
    """Wheels that the cell 0 turns and each other cell turns back to their first states.

    There is a tail of states with arrows of the cell 0 to the first wheel. If the lengths have no
    common divisors, and L is their product, 1 + tail + L sets can be reached: the set of all states,
    this set with fewer and fewer states of the tail, and the positions of the wheels.
    """
    arrows = []
    firsts = []
    states = 0
    for length in lengths:
        firsts.append(states)
        arrows.extend((states + at, 0, states + (at + 1) % length) for at in range(length))
        states += length
    for at in range(tail):
        arrows.append((states + at, 0, states + at - 1 if at else 0))
    states += tail
    for state in range(states):
        arrows.extend((state, cell, first) for cell in range(1, size) for first in firsts)
    return (size, states, sorted(arrows))


class TrimmedTest(unittest.TestCase):
    def check(self, machine):
        result = trimmed(machine)
        self.assertEqual(result, trimmed_by_rounds(machine))
        self.assertIsNone(check_machine(result))
        self.assertEqual(trimmed(result), result)

    def test_examples(self):
        self.assertEqual(trimmed(SPARSE), SPARSE)
        self.assertEqual(trimmed(NOTHING[3]), NOTHING[3])
        self.assertEqual(trimmed((3, 5, [])), NOTHING[3])
        # No arrow leads to 0, none from 3; 1 and 4 are a loop, 2 has one of its own.
        arrows = [(0, 0, 1), (1, 1, 4), (2, 1, 2), (2, 1, 3), (4, 0, 1), (4, 0, 2)]
        self.assertEqual(trimmed((2, 5, arrows)), (2, 3, [(0, 1, 2), (1, 1, 1), (2, 0, 0), (2, 0, 1)]))

    def test_one_state(self):
        self.assertEqual(trimmed((4, 1, [])), NOTHING[4])
        self.assertEqual(trimmed((4, 1, [(0, 3, 0)])), (4, 1, [(0, 3, 0)]))
        self.assertEqual(trimmed(FULL[2]), FULL[2])

    def test_two_loops_and_what_lies_between(self):
        arrows = [(0, 0, 0), (0, 1, 1), (1, 0, 2), (2, 1, 3), (3, 1, 3)]
        self.assertEqual(trimmed((2, 4, arrows)), (2, 4, arrows))
        arrows = [(0, 0, 1), (1, 0, 2), (1, 1, 1), (2, 0, 3), (3, 1, 4), (4, 0, 4), (4, 0, 5)]
        expected = [(0, 0, 1), (0, 1, 0), (1, 0, 2), (2, 1, 3), (3, 0, 3)]
        self.assertEqual(trimmed((2, 6, arrows)), (2, 4, expected))

    def test_chains_fall_away(self):
        for states in [2, 3, 50, 2048]:
            chain = [(state, 0, state + 1) for state in range(states - 1)]
            self.assertEqual(trimmed((2, states, chain)), NOTHING[2])
            back = [(state + 1, 1, state) for state in range(states - 1)]
            self.assertEqual(trimmed((2, states, back)), NOTHING[2])
            self.assertEqual(trimmed((2, states, [(0, 0, 0)] + chain)), (2, 1, [(0, 0, 0)]))
            self.assertEqual(trimmed((2, states, chain + [(states - 1, 1, states - 1)])), (2, 1, [(0, 1, 0)]))
            middle = states // 2
            looped = sorted(chain + [(middle, 1, middle)])
            self.assertEqual(trimmed((2, states, looped)), (2, 1, [(0, 1, 0)]))
            ring = (2, states, chain + [(states - 1, 1, 0)])
            self.assertEqual(trimmed(ring), ring)

    def test_many_arrows_between_the_states(self):
        arrows = [(s, c, t) for s in range(60) for c in range(4) for t in range(s + 1, 60)]
        self.assertEqual(trimmed((4, 60, arrows)), NOTHING[4])
        looped = sorted(arrows + [(59, 0, 0)])
        self.assertEqual(trimmed((4, 60, looped)), (4, 60, looped))

    def test_small_machines(self):
        for machine in small_machines():
            self.check(machine)

    def test_random_machines(self):
        rng = random.Random(91)
        for machine in random_machines(92, 300):
            self.check(machine)
        for _ in range(100):
            states = rng.randint(8, 40)
            self.check(random_machine(rng, 2, states, rng.randint(states // 2, 2 * states)))

    def test_reads_what_has_paths_on_both_sides(self):
        for machine in random_machines(93, 60):
            size, states, _ = machine
            result = trimmed(machine)
            for word in words(size, 3):
                # Paths longer than the number of states before and behind the word.
                here = set(range(states))
                for _ in range(states + 1):
                    here = {target for source, _, target in machine[2] if source in here}
                here = ends_of_paths(machine, here, word)
                for _ in range(states + 1):
                    here = {target for source, _, target in machine[2] if source in here}
                self.assertIs(reads(result, word), len(here) > 0)


class StatesAfterTest(unittest.TestCase):
    def check(self, machine, states, word):
        result = states_after(machine, states, word)
        self.assertEqual(result, sorted(ends_of_paths(machine, states, word)))

    def test_examples(self):
        self.assertEqual(states_after(SPARSE, [0, 1], []), [0, 1])
        self.assertEqual(states_after(SPARSE, [0, 1], [1]), [1])
        self.assertEqual(states_after(SPARSE, [0, 1], [0]), [0])
        self.assertEqual(states_after(SPARSE, [1], [1]), [])
        self.assertEqual(states_after(SPARSE, [0, 1], [1, 1]), [])
        self.assertEqual(states_after(EVEN, [0, 1], [1]), [0, 1])
        self.assertEqual(states_after(EVEN, [1], [0]), [])

    def test_the_empty_word(self):
        for machine in random_machines(111, 30):
            states = list(range(machine[1]))
            self.assertEqual(states_after(machine, states, []), states)
            self.assertEqual(states_after(machine, states[::-1], []), states)
            self.assertEqual(states_after(machine, states[-1:], []), states[-1:])
            self.assertEqual(states_after(machine, [], []), [])

    def test_no_states(self):
        for machine in random_machines(112, 30):
            for length in range(3):
                for word in words(machine[0], length):
                    self.assertEqual(states_after(machine, [], word), [])
        self.assertEqual(states_after(NOTHING[2], [], [0, 1]), [])

    def test_lists_in_any_order(self):
        rng = random.Random(113)
        for machine in random_machines(114, 100):
            for _ in range(20):
                states = rng.sample(range(machine[1]), rng.randint(0, machine[1]))
                word = [rng.randrange(machine[0]) for _ in range(rng.randint(0, 5))]
                self.check(machine, states, word)
                self.check(machine, states + states[::-1], word)

    def test_many_states(self):
        rng = random.Random(115)
        for states in [5, 6, 7, 12, 13, 64, 300, 2048]:
            machine = random_machine(rng, 3, states, 4 * states)
            for length in range(4):
                for _ in range(5):
                    word = [rng.randrange(3) for _ in range(length)]
                    self.check(machine, range(states), word)
                    self.check(machine, rng.sample(range(states), states // 2), word)
                    self.check(machine, [states - 1], word)

    def test_what_is_no_state_and_no_cell(self):
        self.assertEqual(states_after(SPARSE, [5, 1, -1, 2], []), [1])
        self.assertEqual(states_after(SPARSE, [5, 1, -1, 2], [0]), [0])
        self.assertEqual(states_after(SPARSE, [0, 1], [2]), [])
        self.assertEqual(states_after(SPARSE, [0, 1], [-1]), [])
        self.assertEqual(states_after(SPARSE, [0, 1], [0, 2, 0]), [])
        self.assertIs(reads(SPARSE, [2]), False)
        self.assertIs(reads(SPARSE, [0, -1]), False)


class ReadsTest(unittest.TestCase):
    def test_examples(self):
        self.assertIs(reads(SPARSE, [0, 1, 0, 0, 1]), True)
        self.assertIs(reads(SPARSE, [0, 1, 1, 0]), False)
        self.assertIs(reads(EVEN, [1, 0, 1, 1, 0, 1]), True)
        self.assertIs(reads(EVEN, [0, 1, 0]), False)
        self.assertIs(reads(EVEN, [0, 1, 1, 1, 0]), False)

    def test_the_empty_word(self):
        for size in [2, 3, 4]:
            for states in [1, 2, 2048]:
                self.assertIs(reads((size, states, []), []), True)
            self.assertIs(reads(NOTHING[size], []), False)

    def test_without_states_or_arrows(self):
        for size in [2, 3, 4]:
            for length in range(1, 3):
                for word in words(size, length):
                    self.assertIs(reads(NOTHING[size], word), False)
                    self.assertIs(reads((size, 3, []), word), False)
                    self.assertIs(reads(FULL[size], word), True)

    def test_paths_from_any_state_to_any_state(self):
        machine = (2, 4, [(0, 0, 1), (1, 1, 2), (3, 1, 0)])
        for length in range(5):
            for word in words(2, length):
                found = word in [[], [0], [1], [0, 1], [1, 0], [1, 0, 1]]
                self.assertIs(reads(machine, word), found)

    def test_small_and_random_machines(self):
        for machine in list(small_machines()) + list(random_machines(116, 60)):
            for length in range(4):
                for word in words(machine[0], length):
                    self.assertIs(reads(machine, word), is_read(machine, word))

    def test_long_words(self):
        self.assertIs(reads(SPARSE, [0, 1] * 5000), True)
        self.assertIs(reads(SPARSE, [0, 1] * 5000 + [1]), False)
        self.assertIs(reads(EVEN, [0] + [1] * 5000 + [0]), True)
        self.assertIs(reads(EVEN, [0] + [1] * 5001 + [0]), False)


class LeastLostTest(unittest.TestCase):
    def test_examples(self):
        self.assertEqual(least_lost(SPARSE), [1, 1])
        self.assertEqual(least_lost(EVEN), [0, 1, 0])
        for size in [2, 3, 4]:
            self.assertIsNone(least_lost(FULL[size]))
            self.assertEqual(least_lost(NOTHING[size]), [])
            self.assertEqual(least_lost((size, 1, [])), [0])
            self.assertEqual(least_lost((size, 2048, [])), [0])
            self.assertEqual(least_lost((size, 1, FULL[size][2][:-1])), [size - 1])

    def test_the_shorter_word_is_less(self):
        # 0 0 0 is lost, but so is 1 1, which is shorter.
        arrows = [(0, 0, 1), (0, 1, 3), (1, 0, 2), (1, 1, 3), (2, 1, 3), (3, 0, 1)]
        machine = (2, 4, arrows)
        self.assertIs(reads(machine, [0, 0, 0]), False)
        self.assertEqual(least_lost(machine), [1, 1])

    def test_the_first_word_of_a_length_is_less(self):
        # Both 0 1 1 and 1 0 0 are lost, and no shorter word.
        machine = (2, 4, [(0, 0, 0), (0, 0, 1), (1, 1, 2), (2, 0, 1), (2, 0, 3), (3, 1, 3)])
        lost = [word for word in words(2, 3) if not reads(machine, word)]
        self.assertGreater(len(lost), 1)
        self.assertIsNone(least_word(2, lambda word: not is_read(machine, word), 2))
        self.assertEqual(least_lost(machine), lost[0])

    def test_a_machine_that_is_not_trimmed(self):
        # The last state has no arrow, but it is one to which a path may lead.
        machine = (2, 3, [(0, 0, 1), (1, 0, 2), (1, 1, 2)])
        self.assertEqual(least_lost(machine), [1, 0])
        self.assertEqual(least_lost(trimmed(machine)), [])

    def test_small_and_random_machines(self):
        for machine in list(small_machines()) + list(random_machines(117, 300)):
            longest = 5 if machine[0] == 2 else 4
            expected = least_word(machine[0], lambda word: not is_read(machine, word), longest)
            result = least_lost(machine)
            if expected is not None:
                self.assertEqual(result, expected)
            elif result is not None:
                self.assertGreater(len(result), longest)
                self.assertIs(is_read(machine, result), False)
                self.assertIs(is_read(machine, result[:-1]), True)
            else:
                found = sets_reached(machine)
                for states in found:
                    for cell in range(machine[0]):
                        self.assertIn(ends_of_paths(machine, states, [cell]), found)

    def test_long_lost_words(self):
        # It is lost that all wheels stand on their last states, which have no arrow of the cell 2.
        for lengths in [[3], [2, 3], [5, 7, 8], [11, 18, 101]]:
            product = 1
            lasts = []
            for length in lengths:
                product *= length
                lasts.append(sum(lengths[:len(lasts)]) + length - 1)
            size, states, arrows = wheels(3, lengths, 1)
            arrows = [arrow for arrow in arrows if arrow[1] != 2 or arrow[0] not in lasts]
            self.assertEqual(least_lost((size, states, arrows)), [1] + [0] * (product - 1) + [2])

    def test_twenty_thousand_sets(self):
        self.assertEqual(len(sets_reached(wheels(2, [5, 7, 4], 3))), 1 + 3 + 140)
        self.assertIsNone(least_lost(wheels(2, [5, 7, 4], 3)))
        self.assertIsNone(least_lost(wheels(2, [11, 18, 101], 0)))
        self.assertIsNone(least_lost(wheels(2, [11, 18, 101], 1)))
        self.assertIsNone(least_lost(wheels(4, [11, 18, 101], 1)))

    def test_more_sets(self):
        for machine in [wheels(2, [11, 18, 101], 2), wheels(2, [7, 9, 11, 13, 16, 17], 0)]:
            with self.assertRaises(TooLong):
                least_lost(machine)

    def test_many_states(self):
        self.assertIsNone(least_lost(wheels(2, [2000], 48)))
        chain = [(state, state % 2, state + 1) for state in range(2047)]
        self.assertEqual(least_lost((2, 2048, chain)), [0, 0])
        zeros = [(state, 0, state + 1) for state in range(2047)] + [(state, 1, 0) for state in range(2048)]
        self.assertEqual(least_lost((2, 2048, sorted(zeros))), [0] * 2048)


class LeastOtherTest(unittest.TestCase):
    def test_examples(self):
        self.assertEqual(least_other(FULL[2], SPARSE), [1, 1])
        self.assertIsNone(least_other(SPARSE, FULL[2]))
        self.assertEqual(least_other(SPARSE, EVEN), [0, 1, 0])
        self.assertEqual(least_other(EVEN, SPARSE), [1, 1])
        for machine in [SPARSE, EVEN, FULL[3], FULL[4]]:
            self.assertIsNone(least_other(machine, machine))

    def test_without_states(self):
        for size in [2, 3, 4]:
            self.assertIsNone(least_other(NOTHING[size], NOTHING[size]))
            self.assertIsNone(least_other(NOTHING[size], FULL[size]))
            self.assertEqual(least_other(FULL[size], NOTHING[size]), [])
            self.assertEqual(least_other((size, 1, []), NOTHING[size]), [])
            self.assertIsNone(least_other((size, 1, []), (size, 7, [])))

    def test_sizes_that_differ(self):
        for first in [2, 3, 4]:
            for second in [2, 3, 4]:
                if first != second:
                    for machine in [NOTHING[first], FULL[first]]:
                        for other in [NOTHING[second], FULL[second]]:
                            with self.assertRaises(OutOfRange):
                                least_other(machine, other)

    def test_words_with_several_paths(self):
        # Only the states 0 and 3 go on with 1; the word of the least order is not that of the first path.
        machine = (2, 4, [(0, 1, 1), (1, 1, 2), (2, 1, 2), (3, 0, 3), (3, 1, 1)])
        other = (2, 2, [(0, 0, 0), (0, 1, 1), (1, 1, 1)])
        self.assertIsNone(least_other(machine, other))
        other = (2, 3, [(0, 0, 0), (0, 1, 1), (1, 1, 2)])
        self.assertEqual(least_other(machine, other), [1, 1, 1])
        other = (2, 3, [(0, 0, 0), (0, 1, 1), (1, 1, 2), (2, 1, 2)])
        self.assertIsNone(least_other(machine, other))
        other = (2, 2, [(0, 0, 1), (0, 1, 0), (1, 1, 0)])
        self.assertEqual(least_other(machine, other), [0, 0])

    def test_small_machines(self):
        machines = list(small_machines())
        rng = random.Random(118)
        for _ in range(3000):
            self.check(rng.choice(machines), rng.choice(machines), 5)

    def test_random_machines(self):
        rng = random.Random(119)
        for _ in range(600):
            size = rng.randint(2, 3)
            first, second = rng.randint(1, 6), rng.randint(1, 6)
            machine = random_machine(rng, size, first, rng.randint(1, 3 * first))
            other = random_machine(rng, size, second, rng.randint(1, 6 * second))
            self.check(machine, other, 5 if size == 2 else 4)
            self.check(other, machine, 5 if size == 2 else 4)
            self.check(machine, trimmed(machine), 5 if size == 2 else 4)
            self.assertIsNone(least_other(trimmed(machine), machine))

    def check(self, machine, other, longest):
        def wanted(word):
            return is_read(machine, word) and not is_read(other, word)

        expected = least_word(machine[0], wanted, longest)
        result = least_other(machine, other)
        if expected is not None or result is None:
            self.assertEqual(result, expected)
        else:
            self.assertGreater(len(result), longest)
            self.assertTrue(wanted(result))

    def test_same_as_least_lost(self):
        for machine in random_machines(120, 200):
            self.assertEqual(least_other(FULL[machine[0]], machine), least_lost(machine))

    def test_long_words(self):
        ring = [(at, 0, (at + 1) % 12) for at in range(12)] + [(0, 1, 0)]
        machine = (2, 12, sorted(ring))
        other = (2, 30, sorted([(at, 0, (at + 1) % 30) for at in range(30)] + [(0, 1, 0)]))
        # Between two 1 the first one has multiples of 12 cells, the second one multiples of 30.
        self.assertEqual(least_other(machine, other), [1] + [0] * 12 + [1])
        self.assertEqual(least_other(other, machine), [1] + [0] * 30 + [1])
        fives = (2, 60, sorted([(at, 0, (at + 1) % 60) for at in range(60)] + [(0, 1, 0)]))
        self.assertIsNone(least_other(fives, machine))
        self.assertIsNone(least_other(fives, other))

    def test_twenty_thousand_pairs(self):
        other = wheels(2, [11, 18, 101], 1)
        self.assertIsNone(least_other(FULL[2], other))
        arrows = [(at, cell, (at + 1) % 4) for at in range(4) for cell in range(2)]
        other = wheels(2, [6, 17, 49], 1)
        self.assertIsNone(least_other((2, 4, arrows), other))
        ring = [(at, 0, (at + 1) % 2000) for at in range(2000)]
        # Ten sets of states: all states, and the nine positions of a wheel of nine.
        self.assertIsNone(least_other((2, 2000, ring), wheels(2, [9], 0)))
        self.assertIsNone(least_other((2, 2000, sorted(ring + [(5, 1, 7)])), wheels(2, [9], 0)))

    def test_more_pairs(self):
        with self.assertRaises(TooLong):
            least_other(FULL[2], wheels(2, [11, 18, 101], 2))
        arrows = [(at, cell, (at + 1) % 4) for at in range(4) for cell in range(2)]
        with self.assertRaises(TooLong):
            least_other((2, 4, arrows), wheels(2, [6, 17, 49], 2))

    def test_pairs_are_counted_and_not_sets(self):
        # More than 20000 sets of the second machine can be reached, but not with words of the first one.
        zeros = (2, 1, [(0, 0, 0)])
        self.assertIsNone(least_other(zeros, wheels(2, [7, 9, 11, 13, 16, 17], 0)))
        ones = (2, 3, [(0, 0, 1), (1, 1, 2), (2, 0, 0)])
        self.assertIsNone(least_other(ones, wheels(2, [7, 9, 11, 13, 16, 17], 0)))


class SameRowsTest(unittest.TestCase):
    def test_examples(self):
        self.assertIs(same_rows(SPARSE, SPARSE), True)
        self.assertIs(same_rows(SPARSE, EVEN), False)
        self.assertIs(same_rows(SPARSE, FULL[2]), False)
        self.assertIs(same_rows(FULL[2], SPARSE), False)
        # The state tells whether a 1 may come, here with the states the other way round.
        self.assertIs(same_rows(SPARSE, (2, 2, [(0, 0, 1), (1, 0, 1), (1, 1, 0)])), True)

    def test_machines_that_are_not_trimmed(self):
        longer = (2, 4, SPARSE[2] + [(1, 1, 2), (2, 1, 3)])
        self.assertEqual(least_other(longer, SPARSE), [1, 1])
        self.assertIs(same_rows(longer, SPARSE), True)
        self.assertIs(same_rows(SPARSE, longer), True)
        for size in [2, 3, 4]:
            chain = (size, 5, [(state, 0, state + 1) for state in range(4)])
            self.assertIs(same_rows(chain, NOTHING[size]), True)
            self.assertIs(same_rows(NOTHING[size], chain), True)
            self.assertIs(same_rows(NOTHING[size], NOTHING[size]), True)
            self.assertIs(same_rows(FULL[size], chain), False)
            self.assertIs(same_rows(chain, FULL[size]), False)
            self.assertIs(same_rows(NOTHING[size], FULL[size]), False)

    def test_sizes_that_differ(self):
        for first in [2, 3, 4]:
            for second in [2, 3, 4]:
                if first != second:
                    for machine in [NOTHING[first], FULL[first], (first, 3, [])]:
                        for other in [NOTHING[second], FULL[second], (second, 3, [])]:
                            with self.assertRaises(OutOfRange):
                                same_rows(machine, other)

    def check(self, machine, other):
        size = machine[0]
        first, second = trimmed_by_rounds(machine), trimmed_by_rounds(other)
        expected = True
        seen = {(frozenset(range(first[1])), frozenset(range(second[1])))}
        queue = list(seen)
        for here, there in queue:
            if bool(here) != bool(there):
                expected = False
            for cell in range(size):
                after = (ends_of_paths(first, here, [cell]), ends_of_paths(second, there, [cell]))
                if after not in seen:
                    seen.add(after)
                    queue.append(after)
        self.assertIs(same_rows(machine, other), expected)
        return expected

    def test_small_machines(self):
        machines = list(small_machines())
        rng = random.Random(121)
        answers = [self.check(rng.choice(machines), rng.choice(machines)) for _ in range(3000)]
        self.assertIn(True, answers)
        self.assertIn(False, answers)

    def test_random_machines(self):
        rng = random.Random(122)
        for _ in range(300):
            size, states = rng.randint(2, 4), rng.randint(1, 5)
            machine = random_machine(rng, size, states, rng.randint(1, 4 * states))
            other = random_machine(rng, size, states, rng.randint(1, 4 * states))
            self.check(machine, other)
            self.assertIs(same_rows(machine, trimmed(machine)), True)
            # The same states in another order, and once more beside themselves.
            order = rng.sample(range(states), states)
            turned = sorted((order[source], cell, order[target]) for source, cell, target in machine[2])
            self.assertIs(same_rows(machine, (size, states, turned)), True)
            beside = [(source + states, cell, target + states) for source, cell, target in turned]
            self.assertIs(same_rows(machine, (size, 2 * states, machine[2] + beside)), True)

    def test_too_long(self):
        with self.assertRaises(TooLong):
            same_rows(FULL[2], wheels(2, [7, 9, 11, 13, 16, 17], 0))
        with self.assertRaises(TooLong):
            same_rows(wheels(2, [7, 9, 11, 13, 16, 17], 0), FULL[2])
        # The tail is trimmed away, so that few pairs are left.
        self.assertIs(same_rows(FULL[2], wheels(2, [11, 18, 101], 2)), True)
        self.assertIs(same_rows(wheels(2, [11, 18, 101], 2), FULL[2]), True)


class ImageMachineTest(unittest.TestCase):
    def check(self, one):
        size, _, width, _ = one
        machine = image_machine(one)
        self.assertEqual(machine, (size, size ** (width - 1), image_arrows(one)))
        self.assertIsNone(check_machine(machine))

    def test_width_one(self):
        self.assertEqual(image_machine((2, 0, 1, [0, 1])), FULL[2])
        self.assertEqual(image_machine((2, 5, 1, [1, 0])), FULL[2])
        self.assertEqual(image_machine((2, 0, 1, [1, 1])), (2, 1, [(0, 1, 0)]))
        self.assertEqual(image_machine((4, 0, 1, [3, 1, 3, 1])), (4, 1, [(0, 1, 0), (0, 3, 0)]))
        self.assertEqual(image_machine((3, -7, 1, [2, 0, 0])), (3, 1, [(0, 0, 0), (0, 2, 0)]))

    def test_examples(self):
        differ = (2, 0, 2, [0, 1, 1, 0])
        self.assertEqual(image_machine(differ), (2, 2, [(0, 0, 0), (0, 1, 1), (1, 0, 1), (1, 1, 0)]))
        # The arrows ascend by their cells first, then by their targets.
        self.assertEqual(image_machine((2, 0, 2, [1, 0, 1, 0])), (2, 2, [(0, 0, 1), (0, 1, 0), (1, 0, 1), (1, 1, 0)]))
        self.assertEqual(image_machine((2, 0, 2, [0, 0, 0, 0])), (2, 2, [(0, 0, 0), (0, 0, 1), (1, 0, 0), (1, 0, 1)]))
        both = (2, 0, 3, [0, 0, 0, 1, 0, 0, 0, 1])
        arrows = [(0, 0, 0), (0, 0, 1), (1, 0, 2), (1, 1, 3), (2, 0, 0), (2, 0, 1), (3, 0, 2), (3, 1, 3)]
        self.assertEqual(image_machine(both), (2, 4, arrows))

    def test_every_size_and_width(self):
        rng = random.Random(123)
        for size, most in [(2, 12), (3, 7), (4, 6)]:
            for width in range(1, most + 1):
                self.check(random_map(rng, size, width))
                self.check((size, 0, width, [0] * size ** width))
                self.check((size, 0, width, list(range(size)) * size ** (width - 1)))
                self.check((size, 0, width, [size - 1 - at % size for at in range(size ** width)]))

    def test_reads_the_words_in_images(self):
        rng = random.Random(124)
        for size, width in [(2, 1), (2, 2), (2, 3), (2, 4), (3, 1), (3, 2), (4, 2)]:
            for _ in range(5):
                one = random_map(rng, size, width)
                machine = image_machine(one)
                for length in range(5 if size == 2 else 3):
                    images = []
                    for word in words(size, length + width - 1):
                        windows = [word[at:at + width] for at in range(length)]
                        images.append([one[3][int("".join(map(str, window)), size)] for window in windows])
                    for word in words(size, length):
                        self.assertIs(reads(machine, word), word in images)


if __name__ == "__main__":
    unittest.main()

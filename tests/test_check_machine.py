"""Point 9: which tuples are valid machines."""

import copy
import unittest

from edenrow.errors import BadMachine
from edenrow.machines import check_machine

VERY_GREAT = [10 ** 6, 10 ** 18, 2 ** 64, 10 ** 100]
ARROWS = [(0, 0, 1), (0, 1, 0), (1, 0, 2), (1, 1, 1), (2, 0, 0), (2, 1, 2)]
PLACES = [0, 2, 5]


def ring(size, states):
    """Each state has an arrow to the one behind it, the last one to the first one."""
    return (size, states, [(state, state % size, (state + 1) % states) for state in range(states)])


class CheckMachineTest(unittest.TestCase):
    def accept(self, machine):
        before = copy.deepcopy(machine)
        self.assertIsNone(check_machine(machine))
        self.assertEqual(machine, before)

    def refuse(self, machine):
        before = copy.deepcopy(machine)
        with self.assertRaises(BadMachine):
            check_machine(machine)
        self.assertEqual(machine, before)

    def with_arrow(self, place, arrow):
        arrows = list(ARROWS)
        arrows[place] = arrow
        return (2, 3, arrows)

    def test_numbers_of_states(self):
        for size in [2, 3, 4]:
            for states in [0, 1, 2, 3, 100, 2047, 2048]:
                self.accept((size, states, []))
                self.accept(ring(size, states))

    def test_all_arrows(self):
        for size in [2, 3, 4]:
            for states in [1, 2, 3, 12]:
                arrows = [(s, c, t) for s in range(states) for c in range(size) for t in range(states)]
                self.accept((size, states, arrows))
        self.accept((2, 2048, [(0, 0, 0), (0, 0, 2047), (2047, 1, 0), (2047, 1, 2047)]))
        self.accept((2, 3, ARROWS))

    def test_size_out_of_range(self):
        for size in [1, 0, -1, -2, 5, 6] + VERY_GREAT + [-great for great in VERY_GREAT]:
            self.refuse((size, 0, []))
            self.refuse((size, 1, []))
            self.refuse((size, 1, [(0, 0, 0)]))
            self.refuse((size, 3, ARROWS))

    def test_number_of_states_out_of_range(self):
        for states in [-1, -2, -2048, 2049, 2050, 4096] + VERY_GREAT + [-great for great in VERY_GREAT]:
            for size in [2, 3, 4]:
                self.refuse((size, states, []))
                self.refuse((size, states, [(0, 0, 0)]))
                self.refuse((size, states, ARROWS))

    def test_arrows_without_states(self):
        self.refuse((2, 0, [(0, 0, 0)]))
        self.refuse((2, 0, [(-1, 0, -1)]))

    def test_source_out_of_range(self):
        for state in [3, 4, 2048] + VERY_GREAT:
            self.refuse(self.with_arrow(5, (state, 1, 2)))
            self.refuse((2, 3, [(state, 0, 0)]))
            self.refuse((2, 3, ARROWS[:2] + [(state, 0, 2)]))
        for state in [-1, -2, -3, -4] + [-great for great in VERY_GREAT]:
            self.refuse(self.with_arrow(0, (state, 0, 1)))
            self.refuse((2, 3, [(state, 0, 0)]))
            self.refuse(self.with_arrow(2, (state, 0, 2)))

    def test_cell_out_of_range(self):
        for place in PLACES:
            source, _, target = ARROWS[place]
            for cell in [-1, -2, 2, 3] + VERY_GREAT + [-great for great in VERY_GREAT]:
                self.refuse(self.with_arrow(place, (source, cell, target)))
        for size in [2, 3, 4]:
            self.accept((size, 1, [(0, cell, 0) for cell in range(size)]))
            self.refuse((size, 1, [(0, cell, 0) for cell in range(size + 1)]))
            self.refuse((size, 1, [(0, cell, 0) for cell in range(-1, size)]))

    def test_target_out_of_range(self):
        for place in PLACES:
            source, cell, _ = ARROWS[place]
            for target in [-1, -3, 3, 4, 2048] + VERY_GREAT + [-great for great in VERY_GREAT]:
                self.refuse(self.with_arrow(place, (source, cell, target)))
        self.refuse((2, 2048, [(0, 0, 2048)]))
        self.refuse((2, 2048, [(2048, 0, 0)]))
        self.accept((2, 2048, [(0, 0, 2047)]))

    def test_arrows_out_of_order(self):
        for place in range(len(ARROWS) - 1):
            arrows = list(ARROWS)
            arrows[place], arrows[place + 1] = arrows[place + 1], arrows[place]
            self.refuse((2, 3, arrows))
        self.refuse((2, 3, ARROWS[::-1]))
        self.refuse((2, 3, ARROWS[1:] + ARROWS[:1]))
        self.refuse((2, 2, [(1, 0, 0), (0, 1, 1)]))
        self.refuse((2, 2, [(0, 1, 0), (0, 0, 1)]))
        self.refuse((2, 2, [(0, 0, 1), (0, 0, 0)]))

    def test_an_arrow_twice(self):
        for place in range(len(ARROWS)):
            self.refuse((2, 3, sorted(ARROWS + [ARROWS[place]])))
            self.refuse((2, 3, ARROWS + [ARROWS[place]]))
        self.refuse((2, 1, [(0, 0, 0), (0, 0, 0)]))


if __name__ == "__main__":
    unittest.main()

"""Reversible maps, with inverses that are known from how the maps are made."""

from itertools import permutations

from edenrow.maps import composed, reduced, shift_map

# Each cell of size 4 is two halves; the second halves move by one place.
HALVES = (4, 0, 2, [(left & 2) | (right & 1) for left in range(4) for right in range(4)])
HALVES_BACK = (4, -1, 2, [(right & 2) | (left & 1) for left in range(4) for right in range(4)])
# A cell of size 3 is turned where a 2 is behind it, which is never turned itself.
TURN_THREE = (3, 0, 2, [0, 0, 1, 1, 1, 0, 2, 2, 2])
# The second cell of 0010 or 0110 is turned; no other cell of these words ever is.
TURN_TWO = (2, -1, 4, [0, 0, 1, 0, 1, 1, 0, 1, 0, 0, 0, 0, 1, 1, 1, 1])
# The map of width 2 with an inverse of width 3, the greatest one for the size 4.
SLOW = (4, 0, 2, [0, 1, 0, 1, 0, 1, 1, 0, 2, 3, 2, 3, 2, 3, 2, 3])

# How many states an image machine may have so that a map is not refused.
MOST_STATES = 150


def blocks(size):
    """Reversible maps of a size, each with its inverse."""
    found = []
    for places in [-2, -1, 1, 2]:
        found.append((shift_map(size, places), shift_map(size, -places)))
    for cells in permutations(range(size)):
        back = [cells.index(cell) for cell in range(size)]
        found.append(((size, 0, 1, list(cells)), (size, 0, 1, back)))
    if size == 2:
        found += [(TURN_TWO, TURN_TWO)] * 4
    if size == 3:
        found += [(TURN_THREE, TURN_THREE)] * 6
    if size == 4:
        found += [(HALVES, HALVES_BACK), (HALVES_BACK, HALVES)] * 12
    return found


def reversible_map(rng, size, many):
    """A composition of at most so many maps, not reduced, that is not refused, and its reduced inverse."""
    while True:
        one, back = shift_map(size, 0), shift_map(size, 0)
        for _ in range(rng.randint(1, many)):
            after, before = rng.choice(blocks(size))
            if len(one[3]) * len(after[3]) > 4096 or len(back[3]) * len(before[3]) > 4096:
                break
            one = composed(one, after)
            back = reduced(composed(before, back))
        if len(one[3]) // size <= MOST_STATES:
            return one, back

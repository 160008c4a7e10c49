"""Running backwards: twins, inverses, and the answer whether a map is reversible."""

from edenrow.errors import TooLong
from edenrow.maps import MOST_CELLS, MOST_WORDS, image_numbers, limited_power, offset_fits
from edenrow.pairs import (
    count_states,
    has_cells,
    least_diamond,
    pairs_after,
    windows_after,
)
from edenrow.rows import round_image


def is_twins(one, first, second):
    """True if two lists of cells are twins of the map, in either order."""
    if first == [] or len(first) != len(second) or first == second:
        return False
    if not has_cells(one[0], first) or not has_cells(one[0], second):
        return False
    return round_image(one, first) == round_image(one, second)


def is_inverse(one, other):
    """True if changing rows by the first map and then by the second one keeps every row."""
    size, offset, width, _ = one
    other_size, other_offset, other_width, other_table = other
    if size != other_size:
        return False
    length = width + other_width - 1
    if limited_power(size, length, MOST_WORDS) > MOST_WORDS:
        raise TooLong("the composition has more than 65536 windows")
    place = -(offset + other_offset)
    # The composition sees the cell that it has to keep only if it is in its window.
    if not 0 <= place < length:
        return False
    kept = [other_table[number] for number in image_numbers(one, other_width)]
    return kept == cells_at(size, length, place)


def decide_reversible(one):
    """Return "yes" and the reduced inverse, or "no" and twins, the lesser one first."""
    # Both words of a diamond begin and end alike, so that they are twins as round rows, too. The
    # search for it is refused for the same maps as this question.
    twins = least_diamond(one)
    if twins is None:
        twins = twins_apart(one)
    if twins is None:
        return ("yes", found_inverse(one))
    first, second = twins
    return ("no", first, second)


def cells_at(size, length, place):
    """Return the cells at a place of the words of this length, by the numbers of the words."""
    before = limited_power(size, place, MOST_WORDS)
    behind = limited_power(size, length - 1 - place, MOST_WORDS)
    return [cell for cell in range(size) for _ in range(behind)] * before


def twins_apart(one):
    """Return twins whose states differ at every place, the lesser one first, or None."""
    arrows = pair_arrows(one)
    apart = {
        pair: [after for after in arrows[pair] if after[0] != after[1]]
        for pair in arrows
        if pair[0] != pair[1]
    }
    ending = steps_left(apart)
    endless = {pair: True for pair in apart if pair not in ending}
    if not endless:
        return None
    first, second = round_path(one, endless)
    return (min(first, second), max(first, second))


def round_path(one, endless):
    """Return the cells of both sides of a path that goes round through pairs that go on without end."""
    size = one[0]
    states = count_states(one)
    # In one order the states of a pair may come back turned, so that both orders are told apart.
    here = min(endless)
    places = {}
    cells = []
    while here not in places:
        places[here] = len(cells)
        window, other = endless_step(one, endless, here)
        cells.append((window % size, other % size))
        here = (window % states, other % states)
    turn = cells[places[here]:]
    return [cell for cell, _ in turn], [cell for _, cell in turn]


def endless_step(one, endless, here):
    """Return two windows that lead from two states to a pair that goes on without end."""
    states = count_states(one)
    steps = [
        (window, other)
        for window, other in windows_after(one, here)
        if ordered((window % states, other % states)) in endless
    ]
    return steps[0]


def ordered(pair):
    """Return two states as a pair, the lesser one first."""
    return (min(pair), max(pair))


def pair_arrows(one):
    """Return for each pair of states, also of equal ones, the list of the pairs after it.

    Equal states are after themselves, by equal windows: two rows may be equal on one side without end.
    """
    states = count_states(one)
    arrows = {}
    for first in range(states):
        arrows[(first, first)] = pairs_after(one, (first, first)) + [(first, first)]
        for second in range(first + 1, states):
            arrows[(first, second)] = pairs_after(one, (first, second))
    return arrows


def turned(arrows):
    """Return the arrows in the other direction."""
    sources = {pair: [] for pair in arrows}
    for pair in arrows:
        for after in arrows[pair]:
            sources[after].append(pair)
    return sources


def steps_left(arrows):
    """Return the lengths of the longest paths, by the pairs from which no path without end leads."""
    sources = turned(arrows)
    left = {pair: len(arrows[pair]) for pair in arrows}
    queue = [pair for pair in arrows if left[pair] == 0]
    steps = {pair: 0 for pair in queue}
    at = 0
    while at < len(queue):
        here = queue[at]
        for source in sources[here]:
            left[source] -= 1
            # The queue ascends by steps, so that the last arrow leads to the longest path.
            if left[source] == 0:
                steps[source] = steps[here] + 1
                queue.append(source)
        at += 1
    return steps


def found_inverse(one):
    """Return the reduced inverse of a reversible map."""
    size, offset, width, _ = one
    low, high = inverse_places(one)
    length = high - low + 1
    if limited_power(size, length, MOST_CELLS) > MOST_CELLS:
        raise TooLong("the table of the inverse has more than 4096 cells")
    if limited_power(size, length + width - 1, MOST_WORDS) > MOST_WORDS:
        raise TooLong("there are more than 65536 words whose images are the windows of the inverse")
    if not offset_fits(low - offset):
        raise TooLong("the offset of the inverse is not from -100 to 100")
    numbers = image_numbers(one, length)
    kept = cells_at(size, length + width - 1, -low)
    table = [0] * limited_power(size, length, MOST_CELLS)
    for number, cell in zip(numbers, kept):
        table[number] = cell
    return (size, low - offset, length, table)


def inverse_places(one):
    """Return the first and the last place of an image that are needed to tell the cell at the place 0.

    The map is reversible, and its offset is taken as 0. If two rows are equal before a place and differ
    at it, their pairs of states make a path that begins behind equal states. It has an end, at which
    the images differ: the longest of these paths tells how far an image has to be known. In the other
    direction it is the longest path that leads to equal states.
    """
    width = one[2]
    arrows = pair_arrows(one)
    ahead = steps_left(arrows)
    behind = steps_left(turned(arrows))
    parting = [ahead[pair] for pair in ahead if pair not in behind]
    meeting = [behind[pair] for pair in behind if pair not in ahead]
    # Two states that were equal a step ago differ in their last cell, those that will be in the first one.
    return -1 - max(meeting, default=-1), max(parting, default=-1) + 2 - width

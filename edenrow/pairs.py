"""Finite changes: diamonds, and the tables of pairs that show that there are none."""

from edenrow.errors import TooLong
from edenrow.maps import apply_word

MOST_PAIRED = 150


def diamond_table(one):
    """Return the computed diamond table, or None if the map has a diamond."""
    refuse_many_states(one)
    queue = [(state, state) for state in range(count_states(one))]
    known = {}
    at = 0
    while at < len(queue):
        found = pairs_after(one, queue[at])
        for pair in found:
            if pair[0] == pair[1]:
                return None
            if pair not in known:
                known[pair] = True
                queue.append(pair)
        at += 1
    return sorted(known)


def least_diamond(one):
    """Return the least diamond, or None."""
    refuse_many_states(one)
    size = one[0]
    distances = steps_to_equal(one)
    start = least_start(one, distances)
    if start is None:
        return None
    steps, begin = start
    state = begin
    others = [begin]
    first = state_word(one, begin)
    layers = []
    for left in reversed(range(steps)):
        window, layer = least_layer(one, distances, (state, others), left)
        first.append(window % size)
        layers.append(layer)
        state = window % count_states(one)
        others = list(layer)
    return (first, state_word(one, begin) + traced_cells(size, layers, state))


def is_diamond_table(one, table):
    """True if a list of tuples is a diamond table of the map."""
    refuse_many_states(one)
    states = count_states(one)
    for lesser, greater in table:
        if not 0 <= lesser < greater < states:
            return False
    for place in range(1, len(table)):
        if table[place - 1] >= table[place]:
            return False
    known = {pair: True for pair in table}
    for pair in [(state, state) for state in range(states)] + table:
        found = pairs_after(one, pair)
        for after in found:
            # Two equal states are not known, so that a diamond ends here, too.
            if after not in known:
                return False
    return True


def is_diamond(one, first, second):
    """True if two words are a diamond of the map."""
    size, _, width, _ = one
    length = len(first)
    if len(second) != length or length < 2 * width - 1:
        return False
    if not has_cells(size, first) or not has_cells(size, second):
        return False
    head = width - 1
    # Not -head, which would be the whole word for the width 1.
    tail = length - head
    if first[:head] != second[:head] or first[tail:] != second[tail:]:
        return False
    return first < second and apply_word(one, first) == apply_word(one, second)


def decide_finite(one):
    """Return "yes" and the computed diamond table, or "no" and the two words of the least diamond."""
    table = diamond_table(one)
    if table is not None:
        return ("yes", table)
    first, second = least_diamond(one)
    return ("no", first, second)


def count_states(one):
    """Return the number of states of the image machine."""
    size, _, _, table = one
    return len(table) // size


def refuse_many_states(one):
    """Raise TooLong if the image machine has too many states to pair them."""
    if count_states(one) > MOST_PAIRED:
        raise TooLong("the image machine has more than 150 states")


def has_cells(size, word):
    """True if a word consists of cells."""
    for cell in word:
        if not 0 <= cell < size:
            return False
    return True


def state_word(one, state):
    """Return the cells for which a state stands."""
    size, _, width, _ = one
    word = []
    for _ in range(width - 1):
        word.append(state % size)
        state //= size
    return word[::-1]


def windows_after(one, pair):
    """Return the pairs of different windows that begin with two states and have the same new cell."""
    size, _, _, table = one
    first, second = pair
    return [
        (window, other)
        for window in range(first * size, first * size + size)
        for other in range(second * size, second * size + size)
        if window != other and table[window] == table[other]
    ]


def pairs_after(one, pair):
    """Return the pairs that are found after two states, the lesser state first, also of equal states."""
    states = count_states(one)
    found = []
    for window, other in windows_after(one, pair):
        ends = (window % states, other % states)
        found.append((min(ends), max(ends)))
    return found


def pairs_before(one, pair):
    """Return the pairs of states, in both orders, from which two states are found."""
    size, _, _, table = one
    states = count_states(one)
    first, second = pair
    return [
        (window // size, other // size)
        for window in range(first, len(table), states)
        for other in range(second, len(table), states)
        if window != other and table[window] == table[other]
    ]


def steps_to_equal(one):
    """Return, by the pairs in both orders, the least numbers of steps to two equal states."""
    queue = [(state, state) for state in range(count_states(one))]
    distances = {pair: 0 for pair in queue}
    at = 0
    while at < len(queue):
        steps = distances[queue[at]] + 1
        found = pairs_before(one, queue[at])
        for pair in found:
            if pair not in distances:
                distances[pair] = steps
                queue.append(pair)
        at += 1
    return distances


def least_start(one, distances):
    """Return the number of steps of the shortest diamonds and the least state that begins one, or None."""
    states = count_states(one)
    starts = []
    for state in range(states):
        for window, other in windows_after(one, (state, state)):
            ends = (window % states, other % states)
            if ends in distances:
                starts.append((distances[ends] + 1, state))
    return min(starts, default=None)


def least_layer(one, distances, place, left):
    """Return the next window of the first word, the least one, and the windows of second words beside it.

    The place is the state behind the first word so far, and the list of the states behind second words,
    in the order of these words. The windows beside it are given by the states behind them, in the order
    of the second words, too; where several ones lead to a state, it is that of the least second word.
    Only windows are taken from which two equal states are as many steps away as are left.
    """
    states = count_states(one)
    state, others = place
    choices = []
    for other in others:
        for windows in windows_after(one, (state, other)):
            if distances.get((windows[0] % states, windows[1] % states)) == left:
                choices.append(windows)
    least = min([window for window, _ in choices])
    layer = {}
    for window, beside in choices:
        if window == least and beside % states not in layer:
            layer[beside % states] = beside
    return least, layer


def traced_cells(size, layers, state):
    """Return the cells of the windows that lead to a state through all layers."""
    cells = []
    for layer in reversed(layers):
        cells.append(layer[state] % size)
        state = layer[state] // size
    return cells[::-1]

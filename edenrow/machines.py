"""Machines: arrows between states, the words that they read and the rows that they accept.

Inside the program a set of states is a mask: the integer in which the bits of its states are 1.
"""

from edenrow.errors import BadMachine, OutOfRange, TooLong
from edenrow.maps import size_fits

MOST_STATES = 2048
MOST_FOUND = 20000
BLOCK = 6


def check_machine(machine):
    """Raise BadMachine if the tuple is not a valid machine."""
    size, states, arrows = machine
    if not size_fits(size):
        raise BadMachine("the size is not from 2 to 4")
    if not 0 <= states <= MOST_STATES:
        raise BadMachine("the number of states is not from 0 to 2048")
    for source, cell, target in arrows:
        if not 0 <= source < states or not 0 <= target < states:
            raise BadMachine("an arrow has a state that does not exist")
        if not 0 <= cell < size:
            raise BadMachine("an arrow has what is not a cell")
    for place in range(1, len(arrows)):
        if arrows[place - 1] >= arrows[place]:
            raise BadMachine("the arrows do not ascend, or one is there twice")


def trimmed(machine):
    """Return the machine without the states that lie on no path without end in both directions."""
    size, states, arrows = machine
    kept = lasting_states(states, arrows)
    numbers = {state: number for number, state in enumerate(kept)}
    rest = [
        (numbers[source], cell, numbers[target])
        for source, cell, target in arrows
        if source in numbers and target in numbers
    ]
    return (size, len(kept), rest)


def lasting_states(states, arrows):
    """Return the states that remain when a machine is trimmed, in ascending order."""
    targets = [[] for _ in range(states)]
    sources = [[] for _ in range(states)]
    for source, _, target in arrows:
        targets[source].append(target)
        sources[target].append(source)
    leading_out = [len(row) for row in targets]
    leading_in = [len(row) for row in sources]
    lost = [state for state in range(states) if leading_out[state] == 0 or leading_in[state] == 0]
    gone = [False] * states
    while lost:
        state = lost.pop()
        # A state that loses its arrows in both directions is listed twice, but falls away once.
        if gone[state]:
            continue
        gone[state] = True
        for target in targets[state]:
            leading_in[target] -= 1
            if leading_in[target] == 0:
                lost.append(target)
        for source in sources[state]:
            leading_out[source] -= 1
            if leading_out[source] == 0:
                lost.append(source)
    return [state for state in range(states) if not gone[state]]


def states_after(machine, states, word):
    """Return the ascending list of the states after a word from a list of states."""
    size, many, _ = machine
    tables = cell_tables(machine)
    # What is no state has no path, not even one with the empty word.
    mask = mask_of([state for state in states if 0 <= state < many])
    for cell in word:
        mask = after_cell(tables[cell], mask) if 0 <= cell < size else 0
    return members(mask)


def reads(machine, word):
    """True if there is a path whose cells are the word."""
    return states_after(machine, list(range(machine[1])), word) != []


def least_lost(machine):
    """Return the least word that the machine does not read, or None."""
    _, word = search_sets(machine)
    return word


def least_other(machine, other):
    """Return the least word that the first machine reads and the second one does not, or None."""
    if machine[0] != other[0]:
        raise OutOfRange("the sizes of the machines differ")
    if machine[1] == 0:
        return None
    start = (full_mask(machine), full_mask(other))
    if start[1] == 0:
        return []
    tables = list(zip(cell_tables(machine), cell_tables(other)))
    # Each item of found stands for a word: the states of the first machine after it that are new
    # beside the set of states of the second one after it. So the words ascend as in search_sets.
    found = [start]
    origins = [(0, 0)]
    known = {start[1]: start[0]}
    pairs = machine[1]
    at = 0
    while at < len(found):
        mask, other_mask = found[at]
        for cell, (table, other_table) in enumerate(tables):
            other_after = after_cell(other_table, other_mask)
            old = known.get(other_after, 0)
            new = after_cell(table, mask) & ~old
            if new == 0:
                continue
            if other_after == 0:
                return word_to(origins, at) + [cell]
            pairs += len(members(new))
            if pairs > MOST_FOUND:
                raise TooLong("more than 20000 pairs of a state and a set of states can be reached")
            known[other_after] = old | new
            found.append((new, other_after))
            origins.append((at, cell))
        at += 1
    return None


def same_rows(machine, other):
    """True if two machines of the same size accept the same rows."""
    first = trimmed(machine)
    second = trimmed(other)
    return least_other(first, second) is None and least_other(second, first) is None


def image_machine(one):
    """Return the image machine of a map."""
    size, _, _, table = one
    states = len(table) // size
    arrows = sorted({(number // size, cell, number % states) for number, cell in enumerate(table)})
    return (size, states, arrows)


def full_mask(machine):
    """Return the set of all states of a machine."""
    return (1 << machine[1]) - 1


def mask_of(states):
    """Return the set of the states in a list."""
    mask = 0
    for state in states:
        mask |= 1 << state
    return mask


def members(mask):
    """Return the ascending list of the states in a set."""
    digits = f"{mask:b}"
    return [state for state, digit in enumerate(digits[::-1]) if digit == "1"]


def cell_tables(machine):
    """Return for each cell the tables with which after_cell finds the states after it."""
    size, states, arrows = machine
    masks = [[0] * states for _ in range(size)]
    for source, cell, target in arrows:
        masks[cell][source] |= 1 << target
    return [block_tables(row) for row in masks]


def block_tables(masks):
    """Return for each block of states a table: the union of the masks for each part of the block."""
    # A search asks for a few blocks of a set, in place of all its states.
    tables = []
    for first in range(0, len(masks), BLOCK):
        unions = [0]
        for mask in masks[first:first + BLOCK]:
            unions = unions + [union | mask for union in unions]
        tables.append(unions)
    return tables


def after_cell(tables, mask):
    """Return the set of the states after a cell, from a set of states."""
    part = (1 << BLOCK) - 1
    result = 0
    block = 0
    while mask > 0:
        result |= tables[block][mask & part]
        mask >>= BLOCK
        block += 1
    return result


def search_sets(machine):
    """Return the sets after words, from the set of all states, and the least lost word or None.

    The sets are not empty, and stand in the order in which they are first found. If there is a lost
    word, the search ends with it. As the words to the sets ascend, it is the least one.
    """
    if machine[1] == 0:
        return [], []
    tables = cell_tables(machine)
    found = [full_mask(machine)]
    origins = [(0, 0)]
    known = {found[0]: True}
    at = 0
    while at < len(found):
        for cell, table in enumerate(tables):
            mask = after_cell(table, found[at])
            if mask == 0:
                return found, word_to(origins, at) + [cell]
            if mask in known:
                continue
            if len(found) == MOST_FOUND:
                raise TooLong("more than 20000 sets of states can be reached")
            known[mask] = True
            found.append(mask)
            origins.append((at, cell))
        at += 1
    return found, None


def word_to(origins, at):
    """Return the word to what was found at an index, by the index and the cell that each was found from."""
    word = []
    while at > 0:
        at, cell = origins[at]
        word.append(cell)
    return word[::-1]

"""The definitions of the document, word by word and slowly, to compare the program with."""

from itertools import product


def words(size, length):
    """All words of a length, in the order of their numbers."""
    return [list(word) for word in product(range(size), repeat=length)]


def tables(size, width):
    """All tables of a width, as lists."""
    return words(size, size ** width)


def number_of(size, word):
    return sum(cell * size ** (len(word) - 1 - at) for at, cell in enumerate(word))


def cell_of_image(one, cell_at, place):
    """The new cell at a place of the row whose cells the function cell_at gives."""
    size, offset, width, table = one
    window = [cell_at(place + offset + at) for at in range(width)]
    return table[number_of(size, window)]


def round_reader(row):
    return lambda place: row[place % len(row)]


def spread_reader(row):
    background, start, cells = row

    def cell_at(place):
        inside = start <= place <= start + len(cells) - 1
        return cells[place - start] if inside else background

    return cell_at


def image_reader(one, cell_at):
    return lambda place: cell_of_image(one, cell_at, place)


def round_image_of(one, row):
    return [cell_of_image(one, round_reader(row), place) for place in range(len(row))]


def is_same(first, second):
    """Compare two maps of one size on all words that cover both windows of the place 0."""
    low = min(first[1], second[1])
    high = max(first[1] + first[2], second[1] + second[2])
    for word in words(first[0], high - low):
        def cell_at(place):
            return word[place - low]
        if cell_of_image(first, cell_at, 0) != cell_of_image(second, cell_at, 0):
            return False
    return True


def random_map(rng, size, width, furthest=3):
    table = [rng.randrange(size) for _ in range(size ** width)]
    return (size, rng.randint(-furthest, furthest), width, table)


def widened(one, before, behind):
    """A map that changes rows as the given one does, with cells at both ends that do not matter."""
    size, offset, width, table = one
    wide = []
    for word in words(size, before + width + behind):
        wide.append(table[number_of(size, word[before:before + width])])
    return (size, offset - before, width + before + behind, wide)


def random_machine(rng, size, states, many):
    """A machine with at most so many arrows."""
    arrows = set()
    for _ in range(many if states else 0):
        arrows.add((rng.randrange(states), rng.randrange(size), rng.randrange(states)))
    return (size, states, sorted(arrows))


def ends_of_paths(machine, starts, word):
    """The set of the states to which paths with a word lead, by looking at all arrows."""
    here = set(starts)
    for cell in word:
        here = {target for source, label, target in machine[2] if source in here and label == cell}
    return frozenset(here)


def is_read(machine, word):
    return len(ends_of_paths(machine, range(machine[1]), word)) > 0


def sets_reached(machine):
    """The sets that are not empty, in the order in which they are first found."""
    everything = frozenset(range(machine[1]))
    found = [everything] if everything else []
    for states in found:
        for cell in range(machine[0]):
            after = ends_of_paths(machine, states, [cell])
            if after and after not in found:
                found.append(after)
    return found


def least_word(size, wanted, longest):
    """The least word of at most so many cells for which the function wanted is true, or None."""
    for length in range(longest + 1):
        for word in words(size, length):
            if wanted(word):
                return word
    return None


def trimmed_by_rounds(machine):
    """The trimmed machine: look at all states, remove one, and look at all again."""
    size, states, arrows = machine
    kept = list(range(states))
    while True:
        sources = {source for source, _, _ in arrows}
        targets = {target for _, _, target in arrows}
        lost = [state for state in kept if state not in sources or state not in targets]
        if not lost:
            break
        kept.remove(lost[-1])
        arrows = [arrow for arrow in arrows if lost[-1] not in (arrow[0], arrow[2])]
    return (size, len(kept), [(kept.index(s), cell, kept.index(t)) for s, cell, t in arrows])


def image_arrows(one):
    """The arrows of the image machine, window by window."""
    size, _, width, table = one
    arrows = set()
    for word in words(size, width):
        source, target = number_of(size, word[:-1]), number_of(size, word[1:])
        arrows.add((source, table[number_of(size, word)], target))
    return sorted(arrows)


def permuting_map(rng, size, width):
    """A map whose new cell is a permutation of the last cell of the window, so that it has no orphan."""
    table = []
    for _ in range(size ** (width - 1)):
        part = list(range(size))
        rng.shuffle(part)
        table.extend(part)
    return (size, rng.randint(-3, 3), width, table)


def nearly_permuting_map(rng, size, width):
    """One cell away from a permuting map, so that orphans and diamonds may be long."""
    one = permuting_map(rng, size, width)
    one[3][rng.randrange(size ** width)] = rng.randrange(size)
    return one


def pairs_found(one, s, t):
    """The pairs that point 19 finds after two states, also of equal states."""
    size, _, width, table = one
    first, second = words(size, width - 1)[s], words(size, width - 1)[t]
    found = set()
    for a in range(size):
        for b in range(size):
            if s == t and a == b:
                continue
            left, right = first + [a], second + [b]
            if table[number_of(size, left)] == table[number_of(size, right)]:
                ends = [number_of(size, left[1:]), number_of(size, right[1:])]
                found.add((min(ends), max(ends)))
    return found


def least_diamond_of(one, longest):
    """The least diamond with at most so many cells, by looking at all pairs of words, or None."""
    size, _, width, table = one
    head = width - 1

    def image(word):
        windows = [word[at:at + width] for at in range(len(word) - width + 1)]
        return [table[number_of(size, window)] for window in windows]

    for length in range(2 * width - 1, longest + 1):
        for first in words(size, length):
            for middle in words(size, length - 2 * head):
                second = first[:head] + middle + first[length - head:]
                if first < second and image(first) == image(second):
                    return (first, second)
    return None


def told_cells(one, low, length):
    """The cells at the place 0 by the image words at the places from low on, or None.

    The offset of the map is taken as 0. None is returned if two rows have such an image word in
    common, but not the cell at the place 0, or if some word is no image.
    """
    size, _, width, table = one
    first = min(low, 0)
    last = max(low + length + width - 2, 0)
    told = {}
    for word in words(size, last - first + 1):
        image = [
            table[number_of(size, word[place - first:place - first + width])]
            for place in range(low, low + length)
        ]
        cell = word[-first]
        if told.setdefault(tuple(image), cell) != cell:
            return None
    if len(told) < size ** length:
        return None
    return [told[tuple(image)] for image in words(size, length)]


def inverse_by_search(one, longest):
    """The inverse whose window is shortest, with at most so many cells, or None."""
    size, offset, width, _ = one
    for length in range(1, longest + 1):
        # An image cell beyond these places has no window with the place 0 in it.
        for low in range(-(width - 1) - length + 1, 1):
            table = told_cells(one, low, length)
            if table is not None:
                return (size, low - offset, length, table)
    return None


def has_inverse(one):
    """Whether no two different rows have one image: no path without end passes two different windows."""
    size, _, width, table = one
    windows = words(size, width)
    steps = set()
    for first in windows:
        for second in windows:
            if table[number_of(size, first)] == table[number_of(size, second)]:
                steps.add((tuple(first), tuple(second)))
    while True:
        sources = {(first[:-1], second[:-1]) for first, second in steps}
        targets = {(first[1:], second[1:]) for first, second in steps}
        kept = {
            (first, second)
            for first, second in steps
            if (first[:-1], second[:-1]) in targets and (first[1:], second[1:]) in sources
        }
        if kept == steps:
            return all(first == second for first, second in steps)
        steps = kept


def undoes(one, other):
    """Whether changing rows by the first map and then by the other one keeps every row."""
    low = min(0, one[1] + other[1])
    high = max(0, one[1] + other[1] + one[2] + other[2] - 2)
    for word in words(one[0], high - low + 1):
        def cell_at(place):
            return word[place - low]
        if cell_of_image(other, image_reader(one, cell_at), 0) != cell_at(0):
            return False
    return True


def blocks_of(row, length):
    """The blocks of a round row, one for each place."""
    return [[row[(place + at) % len(row)] for at in range(length)] for place in range(len(row))]


def sum_of(size, measure, length, row):
    """The sum of a measure over a round row, block by block."""
    return sum(measure[number_of(size, block)] for block in blocks_of(row, length))


def round_rows(size, longest):
    """All round rows with at most so many cells."""
    return [row for length in range(1, longest + 1) for row in words(size, length)]


def is_kept(one, measure, length, longest):
    """Whether the sums over all round rows with at most so many cells stay."""
    size = one[0]
    for row in round_rows(size, longest):
        if sum_of(size, measure, length, row) != sum_of(size, measure, length, round_image_of(one, row)):
            return False
    return True

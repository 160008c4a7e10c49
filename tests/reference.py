"""The definitions of the document, word by word and slowly, to compare the program with."""

from itertools import product


def words(size, length):
    """All words of a length, in the order of their numbers."""
    return [list(word) for word in product(range(size), repeat=length)]


def tables(size, width):
    """All tables of a width, as lists."""
    return words(size, size ** width)


def number_of(size, word):
    return sum(cell * size ** (len(word) - 1 - at) for at, cell in enumerate(word))


def cell_of_image(one, cell_at, place):
    """The new cell at a place of the row whose cells the function cell_at gives."""
    size, offset, width, table = one
    window = [cell_at(place + offset + at) for at in range(width)]
    return table[number_of(size, window)]


def round_reader(row):
    return lambda place: row[place % len(row)]


def spread_reader(row):
    background, start, cells = row

    def cell_at(place):
        inside = start <= place <= start + len(cells) - 1
        return cells[place - start] if inside else background

    return cell_at


def image_reader(one, cell_at):
    return lambda place: cell_of_image(one, cell_at, place)


def round_image_of(one, row):
    return [cell_of_image(one, round_reader(row), place) for place in range(len(row))]


def is_same(first, second):
    """Compare two maps of one size on all words that cover both windows of the place 0."""
    low = min(first[1], second[1])
    high = max(first[1] + first[2], second[1] + second[2])
    for word in words(first[0], high - low):
        def cell_at(place):
            return word[place - low]
        if cell_of_image(first, cell_at, 0) != cell_of_image(second, cell_at, 0):
            return False
    return True


def random_map(rng, size, width, furthest=3):
    table = [rng.randrange(size) for _ in range(size ** width)]
    return (size, rng.randint(-furthest, furthest), width, table)


def widened(one, before, behind):
    """A map that changes rows as the given one does, with cells at both ends that do not matter."""
    size, offset, width, table = one
    wide = []
    for word in words(size, before + width + behind):
        wide.append(table[number_of(size, word[before:before + width])])
    return (size, offset - before, width + before + behind, wide)

"""Maps: one local rule that changes all cells of a row at once."""

from edenrow.errors import BadMap, OutOfRange

LEAST_SIZE = 2
MOST_SIZE = 4
MOST_CELLS = 4096
MOST_WORDS = 65536
MOST_OFFSET = 100


def check_map(one):
    """Raise BadMap if the tuple is not a valid map."""
    size, offset, width, table = one
    if not size_fits(size):
        raise BadMap("the size is not from 2 to 4")
    if not offset_fits(offset):
        raise BadMap("the offset is not from -100 to 100")
    if width < 1:
        raise BadMap("the width is below 1")
    length = limited_power(size, width, MOST_CELLS)
    if length > MOST_CELLS:
        raise BadMap("the table of this width has more than 4096 cells")
    if len(table) != length:
        raise BadMap("the table does not have one cell for each window")
    for cell in table:
        if not 0 <= cell < size:
            raise BadMap("the table contains what is not a cell")


def size_fits(size):
    """True if a number is a size."""
    return LEAST_SIZE <= size <= MOST_SIZE


def offset_fits(offset):
    """True if a number can be the offset of a map."""
    return -MOST_OFFSET <= offset <= MOST_OFFSET


def limited_power(size, exponent, most):
    """Return size ** exponent, or a number above most if it is above most."""
    # The loop ends above most, so that a very great exponent takes no time.
    result = 1
    while exponent > 0 and result <= most:
        result *= size
        exponent -= 1
    return result


def word_number(size, word):
    """Return the number with the cells of the word as digits, the first cell first."""
    number = 0
    for cell in word:
        number = number * size + cell
    return number


def new_cell(one, window):
    """Return the cell of the table for a window."""
    size, _, _, table = one
    return table[word_number(size, window)]


def apply_word(one, word):
    """Return the new cells for the windows of a word, from left to right."""
    size, _, width, table = one
    image = []
    number = 0
    for place, cell in enumerate(word):
        # The remainder drops the cell that has left the window.
        number = (number * size + cell) % len(table)
        if place >= width - 1:
            image.append(table[number])
    return image


def reduced(one):
    """Return the reduced map, or raise OutOfRange if its offset is too far."""
    result = narrowed(one)
    if not offset_fits(result[1]):
        raise OutOfRange("the offset of the reduced map is not from -100 to 100")
    return result


def narrowed(one):
    """Return the reduced map as if offsets had no bounds."""
    size, offset, width, table = one
    table = list(table)
    while width > 1 and ignores_first(size, table):
        table = table[:len(table) // size]
        width -= 1
        offset += 1
    while width > 1 and ignores_last(size, table):
        table = table[::size]
        width -= 1
    # A constant map sees no cell, so that its place has no meaning.
    if width == 1 and table == [table[0]] * size:
        offset = 0
    return (size, offset, width, table)


def ignores_first(size, table):
    """True if the table does not depend on the first cell of the window."""
    return table == table[:len(table) // size] * size


def ignores_last(size, table):
    """True if the table does not depend on the last cell of the window."""
    return table == [table[number - number % size] for number in range(len(table))]


def composed(first, second):
    """Return the map that changes rows first by the first map, then by the second one."""
    size, offset, width, table = first
    other_size, other_offset, other_width, other_table = second
    if size != other_size:
        raise OutOfRange("the sizes of the maps differ")
    if len(table) * len(other_table) // size > MOST_CELLS:
        raise OutOfRange("the table of the composition has more than 4096 cells")
    if not offset_fits(offset + other_offset):
        raise OutOfRange("the offset of the composition is not from -100 to 100")
    numbers = image_numbers(first, other_width)
    result = [other_table[number] for number in numbers]
    return (size, offset + other_offset, width + other_width - 1, result)


def image_numbers(one, length):
    """Return the numbers of the image words of this length, by the numbers of their words."""
    size, _, _, table = one
    numbers = list(table)
    for _ in range(length - 1):
        # A word's image is that of the word without its last cell, and one cell more.
        numbers = [
            numbers[number // size] * size + table[number % len(table)]
            for number in range(len(numbers) * size)
        ]
    return numbers


def power(one, exponent):
    """Return the power of a map, reduced after each composition."""
    if exponent < 0:
        raise OutOfRange("the exponent is negative")
    result = shift_map(one[0], 0)
    mark = result
    marked = 0
    step = 0
    while step < exponent:
        result = reduced(composed(result, one))
        step += 1
        if result == mark:
            # The powers go round from the mark on, so that whole rounds change nothing.
            step = exponent - (exponent - step) % (step - marked)
        elif step >= 2 * marked:
            # The mark moves further and further, to get past what is not in the round.
            mark = result
            marked = step
    return result


def shift_map(size, places):
    """Return the map whose new cell at a place is the cell so many places further on."""
    if not size_fits(size):
        raise OutOfRange("the size is not from 2 to 4")
    if not offset_fits(places):
        raise OutOfRange("the number of places is not from -100 to 100")
    return (size, places, 1, list(range(size)))


def same_map(first, second):
    """True if two maps have the same size and change every row in the same way."""
    return narrowed(first) == narrowed(second)

"""Rows: round rows, which repeat a list, and spread rows, which lie on a background."""

from edenrow.maps import apply_word, new_cell


def round_image(one, row):
    """Return the image of a round row, with as many cells."""
    _, offset, width, _ = one
    places = range(offset, offset + len(row) + width - 1)
    return apply_word(one, [round_cell(row, place) for place in places])


def round_simple(row):
    """Return the first cells of a round row, as many as its least period."""
    length = len(row)
    period = 1
    while length % period != 0 or row[:period] * (length // period) != row:
        period += 1
    return row[:period]


def round_cell(row, place):
    """Return the cell of a round row at a place."""
    return row[place % len(row)]


def spread_image(one, row):
    """Return the image of a spread row in simple form."""
    _, offset, width, _ = one
    background, start, cells = row
    # Only windows that contain one of the cells can see more than the background.
    margin = [background] * (width - 1)
    image = apply_word(one, margin + cells + margin)
    new_background = new_cell(one, [background] * width)
    return spread_simple((new_background, start - offset - width + 1, image))


def spread_simple(row):
    """Return the simple form of a spread row."""
    background, start, cells = row
    first = 0
    after = len(cells)
    while first < after and cells[first] == background:
        first += 1
    while first < after and cells[after - 1] == background:
        after -= 1
    if first == after:
        return (background, 0, [])
    return (background, start + first, cells[first:after])


def spread_cell(row, place):
    """Return the cell of a spread row at a place."""
    background, start, cells = row
    if start <= place < start + len(cells):
        return cells[place - start]
    return background

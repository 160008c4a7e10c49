"""Patterns: spread rows that return after some steps, at the same places or at others."""

from edenrow.errors import OutOfRange, TooLong
from edenrow.maps import MOST_CELLS, MOST_WORDS, apply_word, limited_power
from edenrow.rows import spread_simple

MOST_LOOKED_AT = 500


def return_of(one, row, *, most):
    """Return the steps and the places moved after which a spread row returns first, or None."""
    if most < 0:
        raise OutOfRange("the number of steps is negative")
    background, start, cells = spread_simple(row)
    return first_return(Steps(one), (str(background), start, digits_of(cells)), most)


def patterns(one, length, *, most):
    """Return the cells, the steps and the places moved of all patterns with at most so many cells."""
    if length < 0 or most < 0:
        raise OutOfRange("the length or the number of steps is negative")
    size = one[0]
    if limited_power(size, length, MOST_CELLS) > MOST_CELLS:
        raise TooLong("there are more than 4096 words of this length")
    steps = Steps(one)
    texts = [""]
    found = []
    for _ in range(length):
        texts = [text + str(cell) for text in texts for cell in range(size)]
        for text in texts:
            # Only simple forms are patterns.
            if text.strip("0") != text:
                continue
            result = first_return(steps, ("0", 0, text), most)
            if result is not None:
                found.append((cells_of(text), result[0], result[1]))
    return found


class Steps:
    """Changes spread rows by a map, where texts of digits stand in the place of cells.

    A row is changed piece by piece, and the images of pieces are kept for the following steps and
    rows, so that a step takes a look for each piece instead of some arithmetic for each cell.
    """

    def __init__(self, one):
        size, _, width, _ = one
        self.one = one
        # So many cells of an image come from a whole piece, of which there are at most 65536 ones.
        self.many = 1
        while limited_power(size, width + self.many, MOST_WORDS) <= MOST_WORDS:
            self.many += 1
        self.images = {}

    def learn(self, text):
        """Keep the image word of a word."""
        self.images[text] = digits_of(apply_word(self.one, cells_of(text)))

    def after(self, row):
        """Return the image of a spread row in simple form."""
        _, offset, width, _ = self.one
        background, start, text = row
        margin = background * (width - 1)
        text = margin + text + margin
        whole = self.many + width - 1
        pieces = [text[place:place + whole] for place in range(0, len(text) - width + 1, self.many)]
        alone = background * width
        for piece in [alone] + pieces:
            if piece not in self.images:
                self.learn(piece)
        images = self.images
        image = "".join([images[piece] for piece in pieces])
        background = images[alone]
        rest = image.lstrip(background)
        if rest == "":
            return (background, 0, "")
        return (background, start - offset - width + 1 + len(image) - len(rest), rest.rstrip(background))


def first_return(steps, row, most):
    """Return the first return of a spread row in simple form within a number of steps, or None."""
    here = row
    mark = row
    marked = 0
    for step in range(1, most + 1):
        here = steps.after(here)
        if len(here[2]) > MOST_LOOKED_AT:
            return None
        if is_alike(here, row):
            return (step, here[1] - row[1])
        # The images go round from the mark on, without the row.
        if is_alike(here, mark):
            return None
        # The mark moves further and further, to get past what is not in the round.
        if step >= 2 * marked:
            mark = here
            marked = step
    return None


def is_alike(row, other):
    """True if two spread rows in simple form have the same background and the same cells."""
    return row[0] == other[0] and row[2] == other[2]


def digits_of(cells):
    """Return the text of a list of cells."""
    return "".join([str(cell) for cell in cells])


def cells_of(text):
    """Return the list of cells of a text."""
    return [int(digit) for digit in text]

"""Desks, which answer commands about a map."""

from edenrow.errors import BadCommand
from edenrow.inverse import decide_reversible
from edenrow.maps import apply_word, check_map, power
from edenrow.pairs import decide_finite
from edenrow.patterns import digits_of
from edenrow.reach import decide_reach
from edenrow.rows import round_image
from edenrow.sums import kept_sums

MOST_DIGITS = 6


def map_text(one):
    """Return the offset, the width and the cells of a map."""
    _, offset, width, table = one
    return f"{offset} {width} {digits_of(table)}"


def reach_answer(one, _):
    """Return the number of sets in the reach table, or the least orphan."""
    answer, evidence = decide_reach(one)
    if answer == "yes":
        return f"yes {len(evidence)}"
    return f"no {digits_of(evidence)}"


def finite_answer(one, _):
    """Return the number of pairs in the diamond table, or the least diamond."""
    answer, *evidence = decide_finite(one)
    if answer == "yes":
        return f"yes {len(evidence[0])}"
    return f"no {digits_of(evidence[0])} {digits_of(evidence[1])}"


def reverse_answer(one, _):
    """Return the inverse, if there is one."""
    answer, *evidence = decide_reversible(one)
    if answer == "yes":
        return f"yes {map_text(evidence[0])}"
    return "no"


def sums_answer(one, numbers):
    """Return the number of kept sums of a length."""
    found = kept_sums(one, numbers[0])
    return str(len(found))


def image_answer(one, numbers):
    """Return the image word of a word."""
    image = apply_word(one, numbers)
    if image == []:
        return "-"
    return digits_of(image)


def after_answer(one, numbers):
    """Return a round row after a number of steps."""
    row = numbers[1:]
    for _ in range(numbers[0]):
        row = round_image(one, row)
    return digits_of(row)


ANSWERS = {
    "reach": reach_answer,
    "finite": finite_answer,
    "reverse": reverse_answer,
    "sums": sums_answer,
    "image": image_answer,
    "after": after_answer,
}
# The least and the greatest number that may stand first behind a command, before the cells.
FIRST_NUMBERS = {"sums": (1, 6), "after": (0, 1000), "power": (0, 1000)}
WITH_CELLS = ("image", "after")


class Desk:
    """Answers commands about a map, which a command may change."""

    def __init__(self, one):
        check_map(one)
        size, offset, width, table = one
        self.one = (size, offset, width, list(table))

    def ask(self, command):
        """Return the answer to a command."""
        name, numbers = read_command(command, self.one[0])
        if name == "power":
            self.one = power(self.one, numbers[0])
            return map_text(self.one)
        answer = ANSWERS[name]
        return answer(self.one, numbers)


def read_command(command, size):
    """Return the first word of a command and the numbers behind it, or raise BadCommand."""
    name, *words = command.split(" ")
    if name != "power" and name not in ANSWERS:
        raise BadCommand("the first word is not that of a command")
    numbers = [read_number(word) for word in words]
    before = 0
    if name in FIRST_NUMBERS:
        before = 1
        check_first(numbers, FIRST_NUMBERS[name])
    cells = numbers[before:]
    if (name in WITH_CELLS) != (cells != []):
        raise BadCommand("the number of words is wrong")
    if [cell for cell in cells if cell >= size]:
        raise BadCommand("a number is not a cell of the map")
    return name, numbers


def read_number(word):
    """Return the number that a word of a command tells, or raise BadCommand."""
    if not word.isascii() or not word.isdigit() or len(word) > MOST_DIGITS:
        raise BadCommand("a word is not a number of at most 6 digits")
    if word[0] == "0" and word != "0":
        raise BadCommand("a number begins with 0")
    return int(word)


def check_first(numbers, bounds):
    """Raise BadCommand if there is no first number, or it is beyond its bounds."""
    least, most = bounds
    if numbers == [] or not least <= numbers[0] <= most:
        raise BadCommand("the first number is missing or beyond its bounds")

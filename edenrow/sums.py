"""Kept sums: measures, which give blocks of cells a value, their flows, and normal measures."""

from math import gcd

from edenrow.errors import OutOfRange, TooLong
from edenrow.maps import MOST_WORDS, image_numbers, limited_power
from edenrow.rows import round_image

MOST_SUMMED = 512


def sum_over(size, measure, row):
    """Return the sum of a measure over a round row."""
    length = block_length(size, measure)
    # The blocks of a row are the windows of a map that has values in the place of cells.
    return sum(round_image((size, 0, length, measure), row))


def flow_of(one, measure):
    """Return the flow whose first integer is 0, or None if the measure is not kept."""
    length = checked_length(one, measure)
    changes = changes_of(one, measure, length)
    flow = flow_along(one[0], changes)
    if any(without_flow(one[0], changes, flow)):
        return None
    return flow


def is_flow(one, measure, flow):
    """True if a list of integers is a flow of the measure and the map."""
    length = checked_length(one, measure)
    changes = changes_of(one, measure, length)
    if len(flow) != len(changes) // one[0]:
        return False
    return not any(without_flow(one[0], changes, flow))


def normal_form(size, measure):
    """Return the normal measure that differs from the measure by a trivial one."""
    block_length(size, measure)
    return without_flow(size, measure, flow_along(size, measure))


def kept_sums(one, length):
    """Return the normal kept measures of a length in echelon form."""
    size, _, width, _ = one
    if length < 1:
        raise OutOfRange("the length is below 1")
    if limited_power(size, length + width - 1, MOST_SUMMED) > MOST_SUMMED:
        raise TooLong("there are more than 512 words whose images are blocks")
    blocks = limited_power(size, length, MOST_SUMMED)
    places = [0] + list(range(blocks // size, blocks))
    units = [unit_list(blocks, place) for place in places]
    # A measure is kept if its changes are trivial, and so their normal form, a sum of these, is 0.
    forms = [normal_form(size, changes_of(one, unit, length)) for unit in units]
    found = echelon_solutions(list(zip(*forms)), len(places))
    return [spread_out(places, solution, blocks) for solution in found]


def block_length(size, measure):
    """Return the length of the blocks of a measure."""
    many = len(measure)
    for length in range(1, many.bit_length() + 1):
        if limited_power(size, length, many) == many:
            return length
    raise OutOfRange("the length of the measure is not that of all blocks of a length")


def checked_length(one, measure):
    """Return the length of the blocks of a measure, where its flows are not too long."""
    size, _, width, _ = one
    length = block_length(size, measure)
    if limited_power(size, length + width - 1, MOST_WORDS) > MOST_WORDS:
        raise TooLong("there are more than 65536 words whose images are blocks")
    return length


def changes_of(one, measure, length):
    """Return, for each word, the value of its image minus that of its first block."""
    numbers = image_numbers(one, length)
    rest = len(numbers) // len(measure)
    return [measure[image] - measure[number // rest] for number, image in enumerate(numbers)]


def flow_along(size, measure):
    """Return an integer for each word that is shorter by a cell, 0 for the word of zeros.

    They are such that the value of each block that begins with 0 (but is not all zeros) is the integer
    of the block without its first cell minus that of the block without its last one.
    """
    flow = [0]
    for number in range(1, len(measure) // size):
        flow.append(flow[number // size] + measure[number])
    return flow


def without_flow(size, measure, flow):
    """Return a measure of which the trivial measure that a flow makes has been taken away."""
    many = len(flow)
    return [
        value - flow[number % many] + flow[number // size]
        for number, value in enumerate(measure)
    ]


def unit_list(many, place):
    """Return a list of zeros with 1 at a place."""
    result = [0] * many
    result[place] = 1
    return result


def spread_out(places, values, many):
    """Return a list of zeros with the values at their places."""
    result = [0] * many
    for place, value in zip(places, values):
        result[place] = value
    return result


def echelon_solutions(conditions, many):
    """Return the lists of integers that solve all conditions, in echelon form."""
    rows = solved_conditions(conditions, many)
    return [solution_from(rows, many, place) for place in range(many) if place not in rows]


def solved_conditions(conditions, many):
    """Return conditions that say the same, by the place of the last integer that is not 0."""
    rows = {}
    for condition in conditions:
        row = list(condition)
        for place in reversed(range(many)):
            if row[place] == 0:
                continue
            if place not in rows:
                rows[place] = primitive(row)
                break
            row = primitive(without_last(row, rows[place], place))
    return rows


def without_last(row, other, place):
    """Return a sum of multiples of two rows that is 0 at a place, where both are not 0."""
    common = gcd(row[place], other[place])
    factor = other[place] // common
    other_factor = row[place] // common
    return [factor * value - other_factor * beside for value, beside in zip(row, other)]


def primitive(row):
    """Return a row divided by the greatest common divisor of its integers."""
    common = 0
    for value in row:
        common = gcd(common, value)
    if common <= 1:
        return row
    return [value // common for value in row]


def solution_from(rows, many, place):
    """Return the solution that is not 0 at a place, and 0 at all other places without a condition."""
    solution = unit_list(many, place)
    for last in range(place + 1, many):
        if last not in rows:
            continue
        row = rows[last]
        total = sum([row[at] * solution[at] for at in range(place, last)])
        common = gcd(total, row[last])
        # All is made greater as far as needed, so that it stays whole and the first integer positive.
        factor = abs(row[last] // common)
        solution = [value * factor for value in solution]
        solution[last] = -total * factor // row[last]
    return primitive(solution)

"""Reaching every row: reach tables and orphans."""

from edenrow.machines import (
    after_cell,
    cell_tables,
    full_mask,
    image_machine,
    mask_of,
    members,
    reads,
    search_sets,
)


def reach_table(one):
    """Return the computed reach table, or None if the map has an orphan."""
    found, orphan = search_sets(image_machine(one))
    if orphan is not None:
        return None
    return [members(mask) for mask in found]


def is_reach_table(one, table):
    """True if a list of lists is a reach table of the map."""
    machine = image_machine(one)
    for row in table:
        if not is_part(machine[1], row):
            return False
    known = {mask_of(row): True for row in table}
    if len(known) != len(table) or full_mask(machine) not in known:
        return False
    tables = cell_tables(machine)
    for mask in known:
        for cell_table in tables:
            # The empty set is not known, so that a lost word ends here, too.
            if after_cell(cell_table, mask) not in known:
                return False
    return True


def is_part(states, row):
    """True if a list is the ascending list of a set of states that is not empty."""
    if row == [] or row[0] < 0 or row[-1] >= states:
        return False
    for place in range(1, len(row)):
        if row[place - 1] >= row[place]:
            return False
    return True


def is_orphan(one, word):
    """True if a word occurs in no image of a row."""
    return not reads(image_machine(one), word)


def decide_reach(one):
    """Return "yes" and the computed reach table, or "no" and the least orphan."""
    found, orphan = search_sets(image_machine(one))
    if orphan is not None:
        return ("no", orphan)
    return ("yes", [members(mask) for mask in found])

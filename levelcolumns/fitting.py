"""Which columns are those of one table, and the table that they are put together to."""

from levelcolumns.checks import check_node
from levelcolumns.columns import assembled, check_column, check_columns
from levelcolumns.errors import InvalidNode, NotFitting
from levelcolumns.schemas import leaves_below, levels_of, meeting


def prefix(schema, leaf, column, node):
    """The prefix of a column at a node at or above its leaf, or at the table (-1)."""
    check_column(schema, leaf, column)
    check_at_or_above(schema, leaf, node)
    return prefix_at(schema, column, node)


def first_misfit(schema, columns):
    """None if all columns fit, else (leaf, entry) where the first of them does not."""
    check_columns(schema, columns)
    return misfit_in(schema, {leaf: column for leaf, column in enumerate(columns)})


def joined(schema, columns):
    """The table that has these columns."""
    check_fitting(schema, columns)
    return assembled(schema, {leaf: column for leaf, column in enumerate(columns)})


def check_at_or_above(schema, leaf, node):
    """InvalidNode unless node is one at or above the leaf, or -1."""
    check_node(schema, node, -1)
    if leaf not in leaves_below(schema, node):
        raise InvalidNode("a node that is not at or above the leaf")


def check_fitting(schema, columns):
    """InvalidColumns, or NotFitting, unless columns, any object, is a list of fitting columns."""
    check_columns(schema, columns)
    check_held_fit(schema, {leaf: column for leaf, column in enumerate(columns)})


def check_held_fit(schema, held):
    """NotFitting unless the columns in held, by their ascending leaves, fit."""
    misfit = misfit_in(schema, held)
    if misfit is not None:
        leaf, entry = misfit
        raise NotFitting(leaf, entry)


def prefix_at(schema, column, node):
    """The prefix of a column at a node that is known to be at or above its leaf."""
    depth, lists = levels_of(schema, node)
    return [(entry[0], min(entry[1], depth)) for entry in column if entry[0] <= lists]


def misfit_in(schema, held):
    """What first_misfit tells, of the columns in held alone, by their ascending leaves."""
    leaves = list(held)
    for leaf, second in zip(leaves, leaves[1:]):
        node = meeting(schema, leaf, second)
        wanted = prefix_at(schema, held[leaf], node)
        entry = _first_difference(schema, node, wanted, held[second])
        if entry is not None:
            return second, entry
    return None


def _first_difference(schema, node, wanted, column):
    """The index of the entry at which the prefix of a column differs from the wanted one, or None.

    It is the length of the column if its prefix ends too early.
    """
    depth, lists = levels_of(schema, node)
    met = 0
    for index, entry in enumerate(column):
        if entry[0] <= lists:
            if met == len(wanted) or wanted[met] != (entry[0], min(entry[1], depth)):
                return index
            met += 1
    if met < len(wanted):
        return len(column)
    return None

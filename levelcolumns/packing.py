"""Packed columns: the levels of some leaves alone, and the values of all."""

from levelcolumns.columns import column_fault
from levelcolumns.errors import InvalidColumns
from levelcolumns.fitting import check_fitting, misfit_in, prefix_at
from levelcolumns.questions import lowest
from levelcolumns.schemas import leaves_below, levels_of, open_line_to


def carriers(schema):
    """The first leaf below each open node that has no open node below it."""
    opened = [node for node, kind in enumerate(schema.node_kinds) if kind in ("list", "maybe")]
    return [leaves_below(schema, node)[0] for node in lowest(schema, opened) if node >= 0]


def packed(schema, columns):
    """The packed form (documents, levels, values) of columns."""
    check_fitting(schema, columns)
    levels = [[(entry[0], entry[1]) for entry in columns[leaf]] for leaf in carriers(schema)]
    values = [[entry[2] for entry in column if entry[2] is not None] for column in columns]
    return _count_documents(columns[0]), levels, values


def unpacked(schema, thing):
    """The columns with this packed form."""
    if not _has_form(schema, thing):
        raise InvalidColumns(-1, -1)
    documents, levels, values = thing
    carried = {leaf: _zero_column(schema, leaf, tuples) for leaf, tuples in zip(carriers(schema), levels)}
    for leaf, column in carried.items():
        if column_fault(schema, leaf, column) is not None:
            raise InvalidColumns(-1, -1)
    columns = []
    for leaf in range(len(schema)):
        # Without an open node the levels of a leaf are as many as its values must be.
        tuples = _levels_told(schema, leaf, carried, len(values[leaf]))
        columns.append(_filled_column(schema, leaf, tuples, values[leaf]))
    if misfit_in(schema, {leaf: column for leaf, column in enumerate(columns)}) is not None:
        raise InvalidColumns(-1, -1)
    if _count_documents(columns[0]) != documents:
        raise InvalidColumns(-1, -1)
    return columns


def _count_documents(column):
    return len([entry for entry in column if entry[0] == 0])


def _has_form(schema, thing):
    """Whether any object has the parts of a packed form, whatever levels stand in them."""
    if type(thing) != tuple or len(thing) != 3:
        return False
    documents, levels, values = thing
    if type(documents) != int or type(levels) != list or type(values) != list:
        return False
    if len(levels) != len(carriers(schema)) or len(values) != len(schema):
        return False
    if not all([type(part) == list for part in levels + values]):
        return False
    if not all([type(pair) == tuple and len(pair) == 2 for part in levels for pair in part]):
        return False
    return all([type(value) == int for part in values for value in part])


def _zero_column(schema, leaf, tuples):
    """Entries with these levels, and 0 wherever a value must stand."""
    depth, _ = levels_of(schema, schema.nodes_of_leaves[leaf])
    return [(level, reached, 0 if reached == depth else None) for level, reached in tuples]


def _levels_told(schema, leaf, carried, documents):
    """The levels of a leaf, as the carriers tell them, or those of so many documents without an open node."""
    line = open_line_to(schema, schema.nodes_of_leaves[leaf])
    if line == []:
        return [(0, 0)] * documents
    telling = [other for other in leaves_below(schema, line[-1]) if other in carried]
    return prefix_at(schema, carried[telling[0]], line[-1])


def _filled_column(schema, leaf, tuples, values):
    """The entries with these levels and these values, which must be as many as there are places for them."""
    entries = _zero_column(schema, leaf, tuples)
    places = [index for index, entry in enumerate(entries) if entry[2] is not None]
    if len(places) != len(values):
        raise InvalidColumns(-1, -1)
    for index, value in zip(places, values):
        level, reached, _ = entries[index]
        entries[index] = (level, reached, value)
    return entries

"""Edits of a table at the end of a path, made in its columns."""

from levelcolumns.checks import check_node
from levelcolumns.columns import check_column, flat, list_entries, list_parts, part_entries, runs
from levelcolumns.documents import is_part
from levelcolumns.errors import InvalidNode, InvalidPart, InvalidPath
from levelcolumns.fitting import check_at_or_above, check_fitting
from levelcolumns.schemas import leaves_below, levels_of, open_line_to


def put_element(schema, columns, node, path, index, part):
    """The columns with a part put into a list, where it is the element with this index."""
    check_fitting(schema, columns)
    _check_kind(schema, node, "list")
    _check_index(index, _count_elements(schema, columns, node, path))
    _check_part(schema, node + 1, part)
    return _with_list(schema, columns, node, path, lambda leaf, parts: (
        parts[:index] + [part_entries(schema, leaf, node + 1, part, 0)] + parts[index:]))


def take_element(schema, columns, node, path, index):
    """The columns with the element with this index taken out of a list."""
    check_fitting(schema, columns)
    _check_kind(schema, node, "list")
    _check_index(index, _count_elements(schema, columns, node, path) - 1)
    return _with_list(schema, columns, node, path, lambda leaf, parts: parts[:index] + parts[index + 1:])


def set_maybe(schema, columns, node, path, part):
    """The columns with a maybe made () or (x,)."""
    check_fitting(schema, columns)
    _check_kind(schema, node, "maybe")
    return _with_part(schema, columns, node, path, part)


def set_value(schema, columns, node, path, part):
    """The columns with another integer as a value."""
    check_fitting(schema, columns)
    _check_kind(schema, node, "value")
    return _with_part(schema, columns, node, path, part)


def put_document(schema, columns, index, part):
    """The columns with a document put in, where it has this index."""
    check_fitting(schema, columns)
    _check_index(index, len(runs(columns[0], 0)))
    _check_part(schema, 0, part)
    found = []
    for leaf, column in enumerate(columns):
        rows = runs(column, 0)
        found.append(flat(rows[:index]) + part_entries(schema, leaf, 0, part, 0) + flat(rows[index:]))
    return found


def take_document(schema, columns, index):
    """The columns with the document with this index taken out."""
    check_fitting(schema, columns)
    _check_index(index, len(runs(columns[0], 0)) - 1)
    found = []
    for column in columns:
        rows = runs(column, 0)
        found.append(flat(rows[:index] + rows[index + 1:]))
    return found


def stretch(schema, leaf, column, node, path):
    """(begin, end): the entries from begin to end - 1 belong to the node at the end of the path."""
    check_column(schema, leaf, column)
    check_at_or_above(schema, leaf, node)
    return _stretch(schema, column, node, path)


def _check_kind(schema, node, kind):
    """InvalidNode unless node is a node of this kind."""
    check_node(schema, node, 0)
    if schema.node_kinds[node] != kind:
        raise InvalidNode("a node of another kind")


def _check_index(index, most):
    """InvalidPath unless index is one from 0 to most."""
    if type(index) != int or not 0 <= index <= most:
        raise InvalidPath("an index that leads nowhere")


def _check_part(schema, node, part):
    """InvalidPart unless part, any object, is what the schema at the node allows there."""
    if not is_part(schema, node, part):
        raise InvalidPart("what is no part of a document there")


def _stretch(schema, column, node, path):
    """What stretch tells; InvalidPath unless path, any object, is a path that leads to the node."""
    above = open_line_to(schema, schema.parents[node]) if node >= 0 else []
    if type(path) != tuple or len(path) != 1 + len([place for place in above if schema.node_kinds[place] == "list"]):
        raise InvalidPath("a path of another length, or what is none")
    begin, end = _nth_run(column, (0, len(column)), 0, path[0])
    for place in above:
        depth, lists = levels_of(schema, place)
        if column[begin][1] < depth:
            raise InvalidPath("a path to what is not there")
        if schema.node_kinds[place] == "list":
            begin, end = _nth_run(column, (begin, end), lists, path[lists])
    return begin, end


def _nth_run(column, span, level, index):
    """The span of the run with this index, within a span that is parted at each r of at most this level."""
    begin, end = span
    starts = [at for at in range(begin, end) if column[at][0] <= level]
    _check_index(index, len(starts) - 1)
    ends = starts[1:] + [end]
    return starts[index], ends[index]


def _count_elements(schema, columns, node, path):
    """How many elements the list at the end of the path has."""
    column = columns[leaves_below(schema, node)[0]]
    begin, end = _stretch(schema, column, node, path)
    return len(list_parts(schema, node, column[begin:end]))


def _with_list(schema, columns, node, path, change):
    """New columns in which the list at the end of the path has what change makes of its elements, leaf by leaf."""
    found = [list(column) for column in columns]
    for leaf in leaves_below(schema, node):
        begin, end = _stretch(schema, columns[leaf], node, path)
        entries = columns[leaf][begin:end]
        parts = change(leaf, list_parts(schema, node, entries))
        found[leaf][begin:end] = list_entries(schema, node, entries[0][0], parts)
    return found


def _with_part(schema, columns, node, path, part):
    """New columns in which a part stands at the end of the path."""
    _stretch(schema, columns[leaves_below(schema, node)[0]], node, path)
    _check_part(schema, node, part)
    found = [list(column) for column in columns]
    for leaf in leaves_below(schema, node):
        begin, end = _stretch(schema, columns[leaf], node, path)
        level = columns[leaf][begin][0]
        found[leaf][begin:end] = part_entries(schema, leaf, node, part, level)
    return found

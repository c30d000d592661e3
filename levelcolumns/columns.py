"""Columns: those of a table, which objects are some, and the tables that they tell."""

from levelcolumns.checks import check_leaf
from levelcolumns.documents import check_table
from levelcolumns.errors import InvalidColumns
from levelcolumns.schemas import leaves_below, levels_of, line_to, open_line_to

# As many as a column has where an object, a text or a live table is looked at for its size.
MOST_ENTRIES = 400


def column_of(schema, leaf, table):
    """The column of a leaf for a table: a list of entries (r, d, value)."""
    check_leaf(schema, leaf)
    check_table(schema, table)
    return _column(schema, leaf, table)


def split(schema, table):
    """The list of the columns of all leaves for a table."""
    check_table(schema, table)
    return [_column(schema, leaf, table) for leaf in range(len(schema))]


def column_fault(schema, leaf, thing):
    """None for a column of the leaf, the index of the first wrong entry, or -1 for no list."""
    check_leaf(schema, leaf)
    if type(thing) != list:
        return -1
    open_line = open_line_to(schema, schema.nodes_of_leaves[leaf])
    places = [at + 1 for at, node in enumerate(open_line) if schema.node_kinds[node] == "list"]
    # Before the first entry no list goes on, so that only r = 0 can stand there.
    before = 0
    for index, entry in enumerate(thing):
        if not _is_entry(entry, len(open_line)) or not _can_follow(before, entry, places):
            return index
        before = entry[1]
    return None


def table_of(schema, leaf, column):
    """The table of the cut schema for this leaf that has this column."""
    check_column(schema, leaf, column)
    return assembled(schema, {leaf: column})


def check_column(schema, leaf, column):
    """InvalidLeaf unless leaf is a leaf, InvalidColumns unless column, any object, is one of it."""
    fault = column_fault(schema, leaf, column)
    if fault is not None:
        raise InvalidColumns(leaf, fault)


def check_columns(schema, columns):
    """InvalidColumns unless columns, any object, is a list of columns of all leaves."""
    check_many(schema, columns)
    for leaf, column in enumerate(columns):
        check_column(schema, leaf, column)


def check_many(schema, columns):
    """InvalidColumns unless columns, any object, is a list of as many objects as there are leaves."""
    if type(columns) != list or len(columns) != len(schema):
        raise InvalidColumns(-1, -1)


def runs(entries, level):
    """The entries in a row, parted before each one with an r of at most this level."""
    found = []
    for entry in entries:
        if found == [] or entry[0] <= level:
            found.append([])
        found[-1].append(entry)
    return found


def flat(rows):
    """The entries of several lists of entries, one list behind the other."""
    return [entry for row in rows for entry in row]


def list_parts(schema, node, entries):
    """What each element of one list contributes to a column, from all entries of this list there."""
    depth, lists = levels_of(schema, node)
    if entries[0][1] < depth:
        return []
    return runs(entries, lists)


def list_entries(schema, node, level, parts):
    """The entries of one list with these elements, the first one with this r; one entry if it has none."""
    depth, lists = levels_of(schema, node)
    if parts == []:
        return [(level, depth - 1, None)]
    entries = []
    for at, part in enumerate(parts):
        _, reached, value = part[0]
        begin = level if at == 0 else lists
        entries.append((begin, reached, value))
        entries.extend(part[1:])
    return entries


def part_entries(schema, leaf, node, part, level):
    """The entries of a part of a document at a node, for a leaf at or below it, the first one with this r."""
    line = line_to(schema, schema.nodes_of_leaves[leaf])
    depth, lists = levels_of(schema, schema.parents[node])
    entries = []
    _add_entries(schema, line[line.index(node):], part, (level, depth, lists), entries)
    return entries


def assembled(schema, held):
    """The table of the cut schema for the leaves of held, a dict of fitting columns by their leaves."""
    return [_assembled_part(schema, 0, document) for document in _side_by_side(held, 0)]


def _column(schema, leaf, table):
    return flat([part_entries(schema, leaf, 0, document, 0) for document in table])


def _add_entries(schema, line, part, levels, entries):
    """Adds the entries of a part of a document; line has the nodes from the one of the part down.

    levels are the r of the first of these entries, the number of open nodes that go
    on above the part, and the number of lists among them.
    """
    first, depth, lists = levels
    kind = schema.node_kinds[line[0]]
    if kind == "value":
        entries.append((first, depth, part))
    elif kind == "record":
        _add_entries(schema, line[1:], part[schema.names[line[1]]], levels, entries)
    elif len(part) == 0:
        entries.append((first, depth, None))
    else:
        counted = lists + 1 if kind == "list" else lists
        for at, inner in enumerate(part):
            begin = first if at == 0 else counted
            _add_entries(schema, line[1:], inner, (begin, depth + 1, counted), entries)


def _is_entry(thing, depth):
    """Whether any object is an entry of a column whose way has this many open nodes."""
    if type(thing) != tuple or len(thing) != 3:
        return False
    level, reached, value = thing
    if type(level) != int or type(reached) != int or not 0 <= reached <= depth:
        return False
    if reached == depth:
        return type(value) == int
    return value is None


def _can_follow(before, entry, places):
    """Whether the r of an entry can stand behind an entry with this d.

    places are those of the lists in the way: the list that has a next element went
    on in the entry before, and it goes on in this one.
    """
    level, reached, _ = entry
    if level <= 0 or level > len(places):
        return level == 0
    return places[level - 1] <= before and places[level - 1] <= reached


def _assembled_part(schema, node, held):
    """The part of a document at a node, from its entries in the columns of the leaves below."""
    kind = schema.node_kinds[node]
    entries = list(held.values())[0]
    if kind == "value":
        return entries[0][2]
    if kind == "record":
        return _assembled_record(schema, node, held)
    depth, lists = levels_of(schema, node)
    goes_on = entries[0][1] >= depth
    if kind == "maybe":
        return (_assembled_part(schema, node + 1, held),) if goes_on else ()
    return [_assembled_part(schema, node + 1, inner) for inner in _side_by_side(held, lists)] if goes_on else []


def _assembled_record(schema, node, held):
    """The dict at a record, with the fields that have one of the held leaves below them."""
    fields = {}
    for below in schema.children[node]:
        inner = {leaf: held[leaf] for leaf in leaves_below(schema, below) if leaf in held}
        if len(inner) > 0:
            fields[schema.names[below]] = _assembled_part(schema, below, inner)
    return fields


def _side_by_side(held, level):
    """The runs of several columns: for each run that they have in common, a dict of it by their leaves."""
    found = {leaf: runs(entries, level) for leaf, entries in held.items()}
    many = len(list(found.values())[0])
    return [{leaf: rows[index] for leaf, rows in found.items()} for index in range(many)]

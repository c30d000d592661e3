"""Documents and tables: which objects are some, and tables of a cut schema."""

from levelcolumns.checks import check_leaves
from levelcolumns.errors import InvalidTable
from levelcolumns.schemas import kept_nodes


def table_fault(schema, thing):
    """None for a table, the index of its first wrong element, or -1 for no list."""
    if type(thing) != list:
        return -1
    for index, document in enumerate(thing):
        if not is_part(schema, 0, document):
            return index
    return None


def cut_table(schema, table, leaves):
    """The table of the cut schema for these leaves."""
    check_table(schema, table)
    check_leaves(schema, leaves)
    kept = kept_nodes(schema, leaves)
    return [_cut_part(schema, 0, document, kept) for document in table]


def check_table(schema, table):
    """InvalidTable unless table, any object, is a table of the schema."""
    fault = table_fault(schema, table)
    if fault is not None:
        raise InvalidTable(fault)


def is_part(schema, node, thing):
    """Whether any object is what the schema at a node allows there."""
    kind = schema.node_kinds[node]
    if kind == "value":
        return type(thing) == int
    if kind == "record":
        return _is_record_part(schema, node, thing)
    if kind == "maybe" and (type(thing) != tuple or len(thing) > 1):
        return False
    if kind == "list" and type(thing) != list:
        return False
    for inner in thing:
        if not is_part(schema, node + 1, inner):
            return False
    return True


def _is_record_part(schema, node, thing):
    """Whether any object is a dict with just the names of a record, and fitting parts."""
    if type(thing) != dict or len(thing) != len(schema.children[node]):
        return False
    for below in schema.children[node]:
        name = schema.names[below]
        if name not in thing or not is_part(schema, below, thing[name]):
            return False
    return True


def _cut_part(schema, node, part, kept):
    """A new part of a document without the fields that are not kept."""
    kind = schema.node_kinds[node]
    if kind == "value":
        return part
    if kind == "record":
        fields = [(schema.names[below], below) for below in schema.children[node] if below in kept]
        return {name: _cut_part(schema, below, part[name], kept) for name, below in fields}
    inner = [_cut_part(schema, node + 1, within, kept) for within in part]
    if kind == "maybe":
        return tuple(inner)
    return inner

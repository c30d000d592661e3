"""Changes of a schema, and of the columns with it."""

from levelcolumns.checks import check_node
from levelcolumns.errors import InvalidField, InvalidNode, InvalidText, NotSingle, TooLarge
from levelcolumns.fitting import check_fitting, prefix_at
from levelcolumns.reading import MOST_LETTERS
from levelcolumns.schemas import Schema, cut, leaves_below, levels_of


def with_field(schema, columns, node, name, text):
    """(schema, columns) with a last field in a record: a maybe of the schema text that is nowhere there."""
    check_fitting(schema, columns)
    check_node(schema, node, 0)
    if schema.node_kinds[node] != "record":
        raise InvalidNode("a node that is no record")
    _check_field(schema, node, name)
    added = len(Schema(text))
    _, end = schema.spans[node]
    wider = _schema_of(schema.text[:end - 1] + " " + name + ":?" + text + schema.text[end - 1:])
    last = leaves_below(schema, node)[-1]
    # A field is reached as often as its record, and there the maybe is what does not go on.
    tuples = prefix_at(schema, columns[last], node)
    found = [list(column) for column in columns]
    found[last + 1:last + 1] = [[(level, reached, None) for level, reached in tuples] for _ in range(added)]
    return wider, found


def cut_columns(schema, columns, leaves):
    """(schema, columns) of these leaves alone."""
    check_fitting(schema, columns)
    narrower = cut(schema, leaves)
    return narrower, [list(columns[leaf]) for leaf in leaves]


def into_maybe(schema, columns, node):
    """(schema, columns) with a node put into a maybe that is there."""
    check_fitting(schema, columns)
    check_node(schema, node, 0)
    return _put_into(schema, columns, node, ("?", ""), 0)


def into_list(schema, columns, node):
    """(schema, columns) with a node put into a list of one element."""
    check_fitting(schema, columns)
    check_node(schema, node, 0)
    return _put_into(schema, columns, node, ("[", "]"), 1)


def out_of(schema, columns, node):
    """(schema, columns) with the node below a maybe or a list in the place of this one."""
    check_fitting(schema, columns)
    check_node(schema, node, 0)
    kind = schema.node_kinds[node]
    if kind != "maybe" and kind != "list":
        raise InvalidNode("a node that is not open")
    _check_single(schema, columns, node)
    begin, end = schema.spans[node]
    inner_begin, inner_end = schema.spans[node + 1]
    text = schema.text
    narrower = Schema(text[:begin] + text[inner_begin:inner_end] + text[end:])
    depth, lists = levels_of(schema, node)
    fewer = 1 if kind == "list" else 0
    return narrower, _shifted(schema, columns, node, (depth, -1), (lists, -fewer))


def _check_field(schema, node, name):
    """InvalidField unless name, any object, is a name that is new in the record."""
    if type(name) != str or not 1 <= len(name) <= MOST_LETTERS:
        raise InvalidField("what is no name of 1 to 8 letters")
    if not all(["a" <= sign <= "z" for sign in name]):
        raise InvalidField("a name with other signs than letters from a to z")
    if name in [schema.names[below] for below in schema.children[node]]:
        raise InvalidField("a name that stands in the record already")


def _schema_of(text):
    """The schema of a text in which nothing but a limit can be wrong; TooLarge if it is beyond one."""
    try:
        return Schema(text)
    except InvalidText:
        raise TooLarge("the new schema is beyond a limit of schemas")


def _put_into(schema, columns, node, signs, more):
    """(schema, columns) with a new open node, of these two signs, around a node; more is 1 for a list."""
    begin, end = schema.spans[node]
    text = schema.text
    wider = _schema_of(text[:begin] + signs[0] + text[begin:end] + signs[1] + text[end:])
    depth, lists = levels_of(schema, schema.parents[node])
    return wider, _shifted(schema, columns, node, (depth, 1), (lists + 1, more))


def _check_single(schema, columns, node):
    """NotSingle if the maybe is missing somewhere, or a list has not just one element."""
    leaf = leaves_below(schema, node)[0]
    depth, lists = levels_of(schema, node)
    listed = schema.node_kinds[node] == "list"
    for index, entry in enumerate(columns[leaf]):
        if entry[1] == depth - 1 or (listed and entry[0] == lists):
            raise NotSingle(leaf, index)


def _shifted(schema, columns, node, deeper, further):
    """New columns in which, below a node, each d and each r from a first one on is greater by so much.

    deeper and further are each a tuple of the first one and of what is added.
    """
    found = [list(column) for column in columns]
    for leaf in leaves_below(schema, node):
        found[leaf] = [(_raised(level, further), _raised(reached, deeper), value)
                       for level, reached, value in columns[leaf]]
    return found


def _raised(number, change):
    least, added = change
    return number + added if number >= least else number

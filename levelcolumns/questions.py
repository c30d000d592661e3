"""Which leaves are enough to tell what happens at needed nodes, and tables that show it."""

from levelcolumns.checks import check_any_leaves
from levelcolumns.columns import column_of
from levelcolumns.documents import table_fault
from levelcolumns.errors import InvalidLengths, InvalidNeeded
from levelcolumns.fitting import prefix_at
from levelcolumns.schemas import leaves_below, line_to


def lowest(schema, needed):
    """The needed nodes, the table among them, that have no other needed node below them."""
    check_needed(schema, needed)
    wanted = with_table(needed)
    return [node for node in wanted if not _has_below(schema, node, wanted)]


def is_enough(schema, needed, leaves):
    """Whether each needed node, and the table, has one of the leaves at or below it."""
    check_needed(schema, needed)
    check_any_leaves(schema, leaves)
    return first_untold(schema, needed, leaves) is None


def fewest_leaves(schema, needed):
    """The shortest list of leaves that is enough; of several the least."""
    return [leaves_below(schema, node)[0] for node in lowest(schema, needed)]


def lightest_leaves(schema, needed, lengths):
    """The list of leaves that is enough with the least sum of lengths; of several the shortest, then the least."""
    places = lowest(schema, needed)
    check_lengths(schema, lengths)
    # The lowest nodes have no leaf in common, so each has its lightest one for itself.
    return [min([(lengths[leaf], leaf) for leaf in leaves_below(schema, node)])[1] for node in places]


def parted(schema, needed, leaves):
    """None if the leaves are enough, else two tables that they do not tell from one another."""
    check_needed(schema, needed)
    check_any_leaves(schema, leaves)
    node = first_untold(schema, needed, leaves)
    if node is None:
        return None
    if node < 0:
        return [], [_sample(schema, 0, node)]
    return [_sample(schema, 0, -1)], [_sample(schema, 0, node)]


def shows_parted(schema, needed, leaves, thing):
    """Whether any object is two tables with the same columns of the leaves that differ at a needed node."""
    check_needed(schema, needed)
    check_any_leaves(schema, leaves)
    if type(thing) != tuple or len(thing) != 2:
        return False
    table, other = thing
    if table_fault(schema, table) is not None or table_fault(schema, other) is not None:
        return False
    for leaf in leaves:
        if column_of(schema, leaf, table) != column_of(schema, leaf, other):
            return False
    return any([_told_at(schema, node, table) != _told_at(schema, node, other) for node in with_table(needed)])


def check_needed(schema, needed):
    """InvalidNeeded unless needed, any object, is an ascending list of open nodes and nodes of leaves, or -1."""
    if type(needed) != list:
        raise InvalidNeeded("needed is no list")
    below = -2
    for node in needed:
        if type(node) != int or not below < node < len(schema.node_kinds):
            raise InvalidNeeded("needed does not ascend, or has what is no node")
        if node >= 0 and schema.node_kinds[node] == "record":
            raise InvalidNeeded("needed has a record")
        below = node


def check_lengths(schema, lengths):
    """InvalidLengths unless lengths, any object, is a list with an integer from 0 on for each leaf."""
    if type(lengths) != list or len(lengths) != len(schema):
        raise InvalidLengths("lengths is no list with an item for each leaf")
    for length in lengths:
        if type(length) != int or length < 0:
            raise InvalidLengths("lengths has what is no length")


def with_table(needed):
    """The needed nodes and, first, the table, which is always needed."""
    return [-1] + [node for node in needed if node >= 0]


def first_untold(schema, needed, leaves):
    """The least needed node, or the table, that has none of the leaves at or below it; None if all have."""
    for node in with_table(needed):
        if not any([leaf in leaves_below(schema, node) for leaf in leaves]):
            return node
    return None


def _has_below(schema, node, needed):
    """Whether another one of the needed nodes is below this one."""
    return any([other != node and (node < 0 or node in line_to(schema, other)) for other in needed])


def _sample(schema, node, marked):
    """The part at a node of a document in which all goes on, but for a marked open node or a marked value."""
    kind = schema.node_kinds[node]
    if kind == "value":
        return 1 if node == marked else 0
    if kind == "record":
        return {schema.names[below]: _sample(schema, below, marked) for below in schema.children[node]}
    if node == marked:
        return () if kind == "maybe" else []
    inner = _sample(schema, node + 1, marked)
    return (inner,) if kind == "maybe" else [inner]


def _told_at(schema, node, table):
    """What happens at a node or at the table: the values there, or the prefix of a column."""
    column = column_of(schema, leaves_below(schema, node)[0], table)
    if node >= 0 and schema.node_kinds[node] == "value":
        return [value for _, _, value in column if value is not None]
    return prefix_at(schema, column, node)

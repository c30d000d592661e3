"""The machine that reads chosen leaves, entry by entry, and jumps from leaf to leaf."""

from levelcolumns.checks import check_leaves
from levelcolumns.errors import InvalidLeaf, InvalidNumber
from levelcolumns.fitting import check_fitting
from levelcolumns.schemas import leaves_below, levels_of, meeting, open_line_to


def next_leaf(schema, leaves, leaf, level):
    """The leaf that is read after an entry of leaf, if the next entry there has this r (-1: there is none)."""
    check_leaves(schema, leaves)
    if type(leaf) != int or leaf not in leaves:
        raise InvalidLeaf("a number that is none of the chosen leaves")
    _, lists = levels_of(schema, schema.nodes_of_leaves[leaf])
    if type(level) != int or not -1 <= level <= lists:
        raise InvalidNumber("a number that is no r of the leaf, and not -1")
    return _leaf_after(schema, leaves, leaf, level)


def entries_of(schema, leaves, columns):
    """Yields (leaf, entry) for all entries of the chosen leaves, in the order of the machine."""
    check_leaves(schema, leaves)
    check_fitting(schema, columns)
    # Copies, so that what the caller does to its lists between two steps plays no role.
    chosen = list(leaves)
    held = {leaf: list(columns[leaf]) for leaf in chosen}
    taken = {leaf: 0 for leaf in chosen}
    leaf = chosen[0] if held[chosen[0]] != [] else None
    while leaf is not None:
        at = taken[leaf]
        taken[leaf] = at + 1
        yield (leaf, held[leaf][at])
        level = held[leaf][at + 1][0] if at + 1 < len(held[leaf]) else -1
        leaf = _leaf_after(schema, chosen, leaf, level)


def _leaf_after(schema, leaves, leaf, level):
    later = [other for other in leaves if other > leaf]
    if later != []:
        _, lists = levels_of(schema, meeting(schema, leaf, later[0]))
        if level <= lists:
            return later[0]
    if level == -1:
        return None
    line = open_line_to(schema, schema.nodes_of_leaves[leaf])
    # The r level 0 stands for the table, each further one for a list of the way.
    again = [-1] + [node for node in line if schema.node_kinds[node] == "list"]
    below = leaves_below(schema, again[level])
    return [other for other in leaves if other in below][0]

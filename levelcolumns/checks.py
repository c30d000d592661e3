"""Checks of arguments that several functions of the package share."""

from levelcolumns.errors import InvalidLeaf, InvalidNode


def check_node(schema, node, first):
    """InvalidNode unless node is a node from first on (-1 where the table may stand, else 0)."""
    if type(node) != int or not first <= node < len(schema.node_kinds):
        raise InvalidNode("a number that is no node of the schema")


def check_leaf(schema, leaf):
    """InvalidLeaf unless leaf is a leaf of the schema."""
    if type(leaf) != int or not 0 <= leaf < len(schema):
        raise InvalidLeaf("a number that is no leaf of the schema")


def check_leaves(schema, leaves):
    """InvalidLeaf unless leaves, any object, is an ascending list of one or more leaves."""
    check_any_leaves(schema, leaves)
    if leaves == []:
        raise InvalidLeaf("leaves has no leaf")


def check_any_leaves(schema, leaves):
    """InvalidLeaf unless leaves, any object, is an ascending list of leaves, perhaps empty."""
    if type(leaves) != list:
        raise InvalidLeaf("leaves is no list")
    below = -1
    for leaf in leaves:
        check_leaf(schema, leaf)
        if leaf <= below:
            raise InvalidLeaf("leaves does not ascend")
        below = leaf

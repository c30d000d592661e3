"""How many tables have columns of given lengths."""

from math import comb

from levelcolumns.errors import InvalidNumber, TooLarge
from levelcolumns.questions import check_lengths
from levelcolumns.schemas import leaves_below

MOST_COUNTED = 24


def count_tables(schema, documents, lengths):
    """How many tables, values apart, have so many documents and columns of these lengths."""
    if type(documents) != int or documents < 0:
        raise InvalidNumber("a number of documents below 0")
    check_lengths(schema, lengths)
    if documents > MOST_COUNTED or max(lengths) > MOST_COUNTED:
        raise TooLarge("a number of documents, or a length, that is too great to count with")
    return _count(schema, lengths, {}, 0, (documents, 0))


def _count(schema, lengths, kept, node, state):
    """How many ways there are to choose so many parts at a node, one behind the other.

    state is (many, spent): the number of parts, and how many entries of each column
    are already taken, by what does not go on above the node. Those are as many in all
    columns below, so that two numbers tell the state for all of them. kept has the
    answers that were found before.
    """
    many, spent = state
    least = min([lengths[leaf] for leaf in leaves_below(schema, node)])
    # Each part has at least one entry in each column.
    if many + spent > least:
        return 0
    if (node, many, spent) not in kept:
        kept[(node, many, spent)] = _count_anew(schema, lengths, kept, node, state)
    return kept[(node, many, spent)]


def _count_anew(schema, lengths, kept, node, state):
    kind = schema.node_kinds[node]
    many, spent = state
    if kind == "value":
        return 1 if lengths[schema.nodes_of_leaves.index(node)] == many + spent else 0
    if kind == "record":
        ways = 1
        for below in schema.children[node]:
            ways = ways * _count(schema, lengths, kept, below, state)
        return ways
    ways = 0
    for there in range(many + 1):
        left = spent + many - there
        inner = _count_there(schema, lengths, kept, node, (there, left))
        ways = ways + comb(many, there) * inner
    return ways


def _count_there(schema, lengths, kept, node, state):
    """The ways to choose so many parts at a maybe or a list, none of them missing or empty."""
    there, spent = state
    if schema.node_kinds[node] == "maybe" or there == 0:
        return _count(schema, lengths, kept, node + 1, state)
    least = min([lengths[leaf] for leaf in leaves_below(schema, node)])
    ways = 0
    for inside in range(there, least - spent + 1):
        # So many ways to part the elements into lists of one or more.
        parted_ways = comb(inside - 1, there - 1)
        ways = ways + parted_ways * _count(schema, lengths, kept, node + 1, (inside, spent))
    return ways

"""Tests asked of the elements of a list or of documents, and tables filtered by them."""

from levelcolumns.columns import flat, list_entries, runs
from levelcolumns.errors import InvalidMask, InvalidNode, InvalidTest
from levelcolumns.fitting import check_fitting
from levelcolumns.schemas import leaves_below, levels_of

MOST_DEEP = 20


def mask(schema, columns, node, test):
    """The booleans of a test for all elements of all lists of a node, or for all documents (-1)."""
    check_fitting(schema, columns)
    check_filtered_node(schema, node)
    check_test(schema, node, test)
    return bits_of(schema, {leaf: column for leaf, column in enumerate(columns)}, node, test)


def filtered(schema, columns, node, bits):
    """The columns of the table in which just the elements, or the documents, with True stay."""
    check_fitting(schema, columns)
    check_filtered_node(schema, node)
    many = len(_parts_of(schema, node, columns[leaves_below(schema, node)[0]]))
    if type(bits) != list or len(bits) != many or not all([type(bit) == bool for bit in bits]):
        raise InvalidMask("bits is no list of booleans, one for each place")
    found = held_filtered(schema, {leaf: column for leaf, column in enumerate(columns)}, node, bits)
    return list(found.values())


def check_filtered_node(schema, node):
    """InvalidNode unless node is a list, or -1."""
    if not is_filtered_node(schema, node):
        raise InvalidNode("a number that is no list of the schema")


def check_test(schema, node, test):
    """InvalidTest unless test, any object, is a test below the node."""
    if not is_test(schema, node, test, MOST_DEEP):
        raise InvalidTest("what is no test below the node")


def is_filtered_node(schema, thing):
    """Whether any object is a list's node, or -1."""
    if type(thing) != int or not -1 <= thing < len(schema.node_kinds):
        return False
    return thing == -1 or schema.node_kinds[thing] == "list"


def is_test(schema, node, thing, deep):
    """Whether any object is a test below the node, at most so deep."""
    if deep == 0 or type(thing) != tuple or len(thing) < 2:
        return False
    word = thing[0]
    if word == "some" or word == "all":
        return len(thing) == 4 and _is_comparison(schema, node, thing)
    within = thing[1:]
    if word == "not":
        fits = len(within) == 1
    else:
        fits = len(within) == 2 and (word == "both" or word == "either")
    return fits and all([is_test(schema, node, inner, deep - 1) for inner in within])


def test_nodes(test):
    """The nodes of leaves that a test asks of, perhaps some of them more than once."""
    if test[0] == "some" or test[0] == "all":
        return [test[1]]
    return [node for inner in test[1:] for node in test_nodes(inner)]


def bits_of(schema, held, node, test):
    """The booleans of a test, from a dict of columns by their leaves, those of the test among them."""
    word = test[0]
    if word == "some" or word == "all":
        return _comparison_bits(schema, held, node, test)
    inner = [bits_of(schema, held, node, within) for within in test[1:]]
    if word == "not":
        return [not bit for bit in inner[0]]
    if word == "both":
        return [first and second for first, second in zip(inner[0], inner[1])]
    return [first or second for first, second in zip(inner[0], inner[1])]


def held_filtered(schema, held, node, bits):
    """A new dict of the filtered columns by their leaves, from such a dict."""
    found = {}
    for leaf, column in held.items():
        if leaf in leaves_below(schema, node):
            found[leaf] = _filtered_column(schema, node, column, bits)
        else:
            found[leaf] = list(column)
    return found


def _is_comparison(schema, node, thing):
    """Whether a tuple of four has the node of a leaf below the node, a sign and an integer behind its word."""
    _, place, sign, number = thing
    if type(place) != int or place not in schema.nodes_of_leaves or type(number) != int:
        return False
    if schema.nodes_of_leaves.index(place) not in leaves_below(schema, node):
        return False
    return sign == "<" or sign == "=" or sign == ">"


def _comparison_bits(schema, held, node, test):
    word, place, sign, number = test
    leaf = schema.nodes_of_leaves.index(place)
    bits = []
    for part in _parts_of(schema, node, held[leaf]):
        answers = [_compare(entry[2], sign, number) for entry in part if entry[2] is not None]
        bits.append(any(answers) if word == "some" else all(answers))
    return bits


def _compare(value, sign, number):
    if sign == "<":
        return value < number
    if sign == ">":
        return value > number
    return value == number


def _parts_of(schema, node, column):
    """What each element of the lists of a node, or each document, contributes to a column below it."""
    depth, lists = levels_of(schema, node)
    return [run for run in runs(column, lists) if run[0][1] >= depth]


def _filtered_column(schema, node, column, bits):
    """The entries of a column below the node that stay, as a filtered table has them."""
    if node < 0:
        return flat([run for run, bit in zip(runs(column, 0), bits) if bit])
    depth, lists = levels_of(schema, node)
    entries = []
    taken = 0
    for run in runs(column, lists - 1):
        if run[0][1] < depth:
            entries.extend(run)
        else:
            parts = runs(run, lists)
            stay = [part for part, bit in zip(parts, bits[taken:taken + len(parts)]) if bit]
            entries.extend(list_entries(schema, node, run[0][0], stay))
            taken += len(parts)
    return entries

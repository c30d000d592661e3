"""Asks: what they need, and their answers from a table or from the columns of some leaves."""

from levelcolumns.checks import check_any_leaves
from levelcolumns.columns import check_column, check_many, runs, split
from levelcolumns.documents import check_table
from levelcolumns.errors import InvalidAsk, NotEnough
from levelcolumns.fitting import check_held_fit
from levelcolumns.masks import MOST_DEEP, bits_of, held_filtered, is_filtered_node, is_test, test_nodes
from levelcolumns.questions import first_untold
from levelcolumns.schemas import leaves_below, levels_of, open_line_to

KIND_FOR_WORD = {"values": "value", "sum": "value", "least": "value", "greatest": "value",
                 "lengths": "list", "there": "maybe"}


def needs_of(schema, ask):
    """The needed nodes of an ask, the table (-1) first."""
    check_ask(schema, ask)
    return sorted(_needs(schema, ask))


def told_of(schema, table, ask):
    """The answer to an ask for a table."""
    check_table(schema, table)
    check_ask(schema, ask)
    columns = split(schema, table)
    return answer(schema, {leaf: column for leaf, column in enumerate(columns)}, ask)


def answered(schema, leaves, columns, ask):
    """The answer to an ask, from the columns of the chosen leaves alone."""
    check_any_leaves(schema, leaves)
    check_many(schema, columns)
    held = {leaf: columns[leaf] for leaf in leaves}
    for leaf, column in held.items():
        check_column(schema, leaf, column)
    check_held_fit(schema, held)
    node = first_untold(schema, needs_of(schema, ask), leaves)
    if node is not None:
        raise NotEnough(node)
    return answer(schema, held, ask)


def check_ask(schema, ask):
    """InvalidAsk unless ask, any object, is an ask."""
    if not _is_ask(schema, ask, MOST_DEEP):
        raise InvalidAsk("what is no ask of the schema")


def answer(schema, held, ask):
    """The answer to an ask, from a dict of fitting columns by their leaves that are enough for it."""
    word = ask[0]
    if word == "where":
        bits = bits_of(schema, held, ask[1], ask[2])
        return answer(schema, held_filtered(schema, held, ask[1], bits), ask[3])
    node = _needed_node(schema, ask)
    telling = [leaf for leaf in leaves_below(schema, node) if leaf in held]
    column = held[telling[0]]
    depth, lists = levels_of(schema, node)
    if word == "count":
        return _count_there(column, depth, lists)
    if word == "there":
        return [entry[1] >= depth for entry in column if entry[0] <= lists and entry[1] >= depth - 1]
    if word == "lengths":
        lists_there = [run for run in runs(column, lists - 1) if run[0][1] >= depth - 1]
        return [_count_there(run, depth, lists) for run in lists_there]
    return _told_of_values(word, [entry[2] for entry in column if entry[2] is not None])


def _is_ask(schema, thing, deep):
    """Whether any object is an ask, at most so deep."""
    if deep == 0 or type(thing) != tuple or len(thing) < 2 or type(thing[0]) != str:
        return False
    word, node = thing[0], thing[1]
    if word == "where":
        if len(thing) != 4 or not is_filtered_node(schema, node):
            return False
        return is_test(schema, node, thing[2], MOST_DEEP) and _is_ask(schema, thing[3], deep - 1)
    if len(thing) != 2 or type(node) != int or not -1 <= node < len(schema.node_kinds):
        return False
    if word == "count":
        return True
    return word in KIND_FOR_WORD and node >= 0 and schema.node_kinds[node] == KIND_FOR_WORD[word]


def _needs(schema, ask):
    """The needed nodes of an ask, the table among them, as the keys of a dict."""
    found = {-1: True}
    inner = ask
    while inner[0] == "where":
        for node in test_nodes(inner[2]):
            found[node] = True
        inner = inner[3]
    found[_needed_node(schema, inner)] = True
    return found


def _needed_node(schema, ask):
    """The one node that an ask without another one in it needs."""
    word, node = ask
    if word != "count":
        return node
    # A record, or a value, is reached as often as the open node above it goes on.
    line = open_line_to(schema, node)
    return line[-1] if len(line) > 0 else -1


def _count_there(entries, depth, lists):
    """How often a node with this k and c goes on, or is reached if it is not open."""
    return len([entry for entry in entries if entry[0] <= lists and entry[1] >= depth])


def _told_of_values(word, values):
    if word == "sum":
        return sum(values)
    if word == "least":
        return min(values, default=None)
    if word == "greatest":
        return max(values, default=None)
    return values

"""Point 14: asks, what they need, and their answers."""

import itertools
import random

from levelcolumns.asks import answered, needs_of, told_of
from levelcolumns.errors import InvalidAsk
from levelcolumns.schemas import Schema
from tests.samples import (DEEP, EXAMPLE, OTHER_OBJECTS, TWELVE, columns_in, cut_tree, filter_nodes, mixed_columns,
                           needs_in, nodes_of, random_ask, random_document, random_trees, told_in, text_of, tree_of,
                           value_nodes_under)
from tests.test_columns import COLUMNS, FIRST, SECOND
from tests.test_fitting import misfit_in
from tests.test_masks import BARE, LISTS, RECORD, nested, samples
from tests.test_questions import NO_LEAVES, all_lists, leaves_under, tells
from tests.tools import Calls, key_orders

WORDS = {"values": "v", "sum": "v", "least": "v", "greatest": "v", "lengths": "[", "there": "?", "count": "v[?{"}

TEST = ("some", 3, "=", 1)

NO_ASKS = OTHER_OBJECTS + [
    ["count", 0], ("count",), ("count", 0, 0), ("count", -2), ("count", 9), ("count", 10 ** 59), ("count", True),
    ("count", None), ("count", "0"), ("count", (0,)), ("count", [0]), ("Count", 0), ("", 0), ("sums", 1), (None, 0),
    (True, 0), (["count"], 0), ({}, 0), (("count",), 0), ("values", -1), ("values", 0), ("values", 2), ("values", 4),
    ("values", True), ("values", None), ("values", 1, 1), ("values",), ("sum", 9), ("sum", 5), ("sum", "1"),
    ("least", 7), ("greatest", 0), ("lengths", 1), ("lengths", 4), ("lengths", 0), ("lengths", -1), ("lengths", "2"),
    ("there", 2), ("there", 7), ("there", 5), ("there", -1), ("there", None), ("there", 4, 4), ("mean", 1),
    ("where",), ("where", -1), ("where", -1, TEST), ("where", TEST, ("count", -1)), ("where", 2, None, ("count", -1)),
    ("where", -1, TEST, ("count", -1), 0), ("where", -1, TEST, None), ("where", -1, TEST, "count"),
    ("where", -1, TEST, ["count", -1]), ("where", -1, list(TEST), ("count", -1)), ("where", 0, TEST, ("count", -1)),
    ("where", 3, TEST, ("count", -1)), ("where", 4, TEST, ("count", -1)), ("where", 7, TEST, ("count", -1)),
    ("where", 9, TEST, ("count", -1)), ("where", -2, TEST, ("count", -1)), ("where", True, TEST, ("count", -1)),
    ("where", None, TEST, ("count", -1)), ("where", "2", TEST, ("count", -1)), ("where", (2,), TEST, ("count", -1)),
    ("where", 2, ("some", 1, "=", 1), ("count", -1)), ("where", 2, ("some", 3, "=", True), ("count", -1)),
    ("where", 2, TEST, ("where", 2, TEST, ("count", True))), ("where", 2, TEST, ("values", 2)),
    ("where", 2, TEST, ("where", 2, TEST)), ["where", 2, TEST, ("count", -1)], {"count": 0}]


def deep_ask(deep, inner=("count", 3), node=2, test=TEST):
    while deep > 1:
        deep -= 1
        inner = ("where", node, test, inner)
    return inner


def plain_asks(tree):
    """All asks without an ask in them."""
    signs = [sign for sign, _ in nodes_of(tree)]
    asks = [("count", -1)]
    for word, wanted in WORDS.items():
        asks.extend([(word, node) for node, sign in enumerate(signs) if sign in wanted])
    return asks


def any_object(rng, schema):
    return rng.choice(OTHER_OBJECTS + [[], [None], [(5, 5, 5)], [[]], schema])


class Needs(Calls):

    def test_each_kind_by_hand(self):
        schema = Schema(EXAMPLE)
        for ask, wanted in [
                (("count", -1), [-1]), (("count", 0), [-1]), (("count", 1), [-1]), (("count", 2), [-1, 2]),
                (("count", 3), [-1, 2]), (("count", 4), [-1, 4]), (("count", 5), [-1, 4]), (("count", 6), [-1, 4]),
                (("count", 7), [-1, 7]), (("count", 8), [-1, 7]), (("values", 1), [-1, 1]), (("sum", 3), [-1, 3]),
                (("least", 6), [-1, 6]), (("greatest", 8), [-1, 8]), (("lengths", 2), [-1, 2]),
                (("lengths", 7), [-1, 7]), (("there", 4), [-1, 4]),
                (("where", 2, TEST, ("count", -1)), [-1, 3]), (("where", -1, TEST, ("count", 5)), [-1, 3, 4]),
                (("where", -1, ("both", ("some", 8, "<", 1), ("not", TEST)), ("sum", 1)), [-1, 1, 3, 8]),
                (("where", 7, ("all", 8, "<", 1), ("where", 2, TEST, ("lengths", 7))), [-1, 3, 7, 8])]:
            self.assertEqual(self.result_of(needs_of, schema=schema, ask=ask), wanted, ask)

    def test_many_schemas(self):
        rng = random.Random(101)
        for tree in random_trees(150, seed=102):
            schema = Schema(text_of(tree))
            for ask in plain_asks(tree) + [random_ask(rng, tree) for _ in range(5)]:
                self.assertEqual(self.result_of(needs_of, schema=schema, ask=ask), needs_in(tree, ask), ask)

    def test_the_needed_leaves_are_those_that_change_the_answer(self):
        # By R3: with another table that has the same columns of all leaves but those below a needed node.
        schema = Schema("{a:[{b:v c:?v}] d:v}")
        table, other = [{"a": [{"b": 1, "c": ()}], "d": 2}], [{"a": [{"b": 1, "c": (1,)}], "d": 2}]
        for ask in plain_asks(tree_of(schema.text)):
            if told_of(schema, table, ask) != told_of(schema, other, ask):
                self.assertTrue(set(needs_of(schema, ask)) & {4, 5}, ask)


class Answers(Calls):

    def assert_told(self, text, table, ask, wanted):
        schema = Schema(text)
        found = self.result_of(told_of, schema=schema, table=table, ask=ask)
        self.assertEqual(key_orders(found), key_orders(wanted), ask)
        columns, leaves = columns_in(tree_of(text), table), list(range(len(schema)))
        found = self.result_of(answered, schema=schema, leaves=leaves, columns=columns, ask=ask)
        self.assertEqual(key_orders(found), key_orders(wanted), ask)

    def test_each_kind_by_hand(self):
        for ask, wanted in [
                (("values", 1), [1, 2]), (("values", 3), [1, 2]), (("values", 6), [5]), (("values", 8), [7]),
                (("sum", 1), 3), (("sum", 8), 7), (("least", 3), 1), (("greatest", 3), 2), (("least", 6), 5),
                (("lengths", 2), [0, 2]), (("lengths", 7), [1]), (("there", 4), [False, True]), (("count", -1), 2),
                (("count", 0), 2), (("count", 1), 2), (("count", 2), 2), (("count", 3), 2), (("count", 4), 1),
                (("count", 5), 1), (("count", 6), 1), (("count", 7), 1), (("count", 8), 1)]:
            self.assert_told(EXAMPLE, [FIRST, SECOND], ask, wanted)

    def test_lists_in_lists_by_hand(self):
        table = [RECORD, BARE, RECORD]
        for ask, wanted in [
                (("lengths", 1), [3, 0, 3]), (("lengths", 4), [0, 2, 1] * 2), (("there", 6), [False, True, False] * 2),
                (("count", 0), 3), (("count", 1), 6), (("count", 2), 6), (("count", 3), 6), (("count", 4), 6),
                (("count", 5), 6), (("count", 6), 2), (("count", 7), 2), (("count", 8), 3),
                (("values", 5), [3, 4, 1, 3, 4, 1]), (("values", 7), [5, 5]), (("sum", 5), 16), (("least", 5), 1),
                (("greatest", 5), 4), (("values", 8), [9, 8, 9])]:
            self.assert_told(LISTS, table, ask, wanted)

    def test_of_no_values(self):
        for table in [[], [FIRST]]:
            for ask, wanted in [(("values", 3), []), (("sum", 3), 0), (("least", 3), None), (("greatest", 3), None),
                                (("count", 3), 0), (("count", 2), 0), (("count", 4), 0), (("count", 5), 0),
                                (("lengths", 7), []), (("count", 7), 0)]:
                self.assert_told(EXAMPLE, table, ask, wanted)
        for ask, wanted in [(("count", -1), 0), (("count", 0), 0), (("count", 1), 0), (("lengths", 2), []),
                            (("there", 4), []), (("values", 1), []), (("where", -1, TEST, ("count", -1)), 0)]:
            self.assert_told(EXAMPLE, [], ask, wanted)

    def test_where_by_hand(self):
        table = [RECORD, BARE, RECORD]
        big = ("some", 3, ">", 1)
        for ask, wanted in [
                (("where", 1, big, ("values", 3)), [2, 3, 2, 3]), (("where", 1, big, ("lengths", 1)), [2, 0, 2]),
                (("where", 1, ("not", big), ("lengths", 4)), [0, 0]), (("where", 1, big, ("sum", 5)), 16),
                (("where", -1, big, ("values", 8)), [9, 9]), (("where", -1, ("not", big), ("values", 8)), [8]),
                (("where", -1, ("not", big), ("there", 6)), []), (("where", 4, ("some", 5, "<", 4), ("lengths", 4)),
                                                                 [0, 1, 1] * 2),
                (("where", 4, ("some", 5, "<", 4), ("values", 3)), [1, 2, 3] * 2),
                (("where", 4, ("some", 5, ">", 2), ("where", 1, ("some", 5, ">", 0), ("values", 3))), [2, 2]),
                (("where", 1, ("some", 5, ">", 0), ("where", 4, ("some", 5, ">", 2), ("values", 3))), [2, 3, 2, 3]),
                (("where", 1, ("some", 5, ">", 9), ("where", -1, ("some", 3, ">", 0), ("count", -1))), 0)]:
            self.assert_told(LISTS, table, ask, wanted)

    def test_all_plain_asks_of_many_schemas(self):
        for _, tree, schema, table in samples(103, 80):
            for ask in plain_asks(tree):
                self.assertEqual(key_orders(told_of(schema, table, ask)), key_orders(told_in(tree, table, ask)), ask)

    def test_asks_in_asks(self):
        for rng, tree, schema, table in samples(105, 200):
            for _ in range(4):
                ask = random_ask(rng, tree)
                wanted = told_in(tree, table, ask)
                self.assertEqual(key_orders(self.result_of(told_of, schema=schema, table=table, ask=ask)),
                                 key_orders(wanted), ask)
                leaves = list(range(len(schema)))
                found = answered(schema, leaves, columns_in(tree, table), ask)
                self.assertEqual(key_orders(found), key_orders(wanted), ask)

    def test_twenty_deep(self):
        schema, table = Schema(EXAMPLE), [FIRST, SECOND]
        for deep in [1, 2, 19, 20]:
            self.assertEqual(told_of(schema, table, deep_ask(deep)), 2 if deep == 1 else 1)
            self.assertEqual(needs_of(schema, deep_ask(deep)), [-1, 2] if deep == 1 else [-1, 2, 3])
            self.assertEqual(answered(schema, [1], [None, COLUMNS[1], 0, 0], deep_ask(deep)), 2 if deep == 1 else 1)
        # The depth of tests is counted by itself.
        self.assertEqual(told_of(schema, table, deep_ask(20, test=nested("not", 19))), 1)
        for ask in [deep_ask(21), deep_ask(25), deep_ask(2, test=nested("not", 21)), deep_ask(20, ("values", 2)),
                    deep_ask(20, test=nested("both", 21))]:
            self.assert_fault(("InvalidAsk",), told_of, schema, table, ask)
            self.assert_fault(("InvalidAsk",), needs_of, schema, ask)
            self.assert_fault(("InvalidAsk",), answered, schema, [], [None] * 4, ask)

    def test_integers_of_sixty_digits(self):
        table = [[10 ** 60 - 1, 1 - 10 ** 60], [10 ** 60 - 1]]
        for ask, wanted in [(("sum", 1), 10 ** 60 - 1), (("greatest", 1), 10 ** 60 - 1), (("least", 1), 1 - 10 ** 60)]:
            self.assert_told("[v]", table, ask, wanted)

    def test_three_hundred_documents(self):
        table = [dict(SECOND, name=number) for number in range(300)]
        self.assert_told(EXAMPLE, table, ("where", -1, ("some", 1, ">", 294), ("values", 1)), list(range(295, 300)))
        self.assert_told(EXAMPLE, table, ("lengths", 2), [2] * 300)


class FromChosenLeaves(Calls):

    def test_enough_and_not_enough(self):
        told = []
        for rng, tree, schema, table in samples(107, 120, 5):
            ask = random_ask(rng, tree, 3)
            needed, columns = needs_in(tree, ask), columns_in(tree, table)
            for leaves in all_lists(len(schema)):
                given = [column if leaf in leaves else any_object(rng, schema) for leaf, column in enumerate(columns)]
                missing = [node for node in needed if not set(leaves) & set(leaves_under(tree, node))]
                told.append(missing == [])
                self.assertEqual(tells(tree, needed[1:], leaves), missing == [])
                if missing:
                    self.assert_fault(("NotEnough", missing[0]), answered, schema, leaves, given, ask)
                else:
                    found = self.result_of(answered, schema=schema, leaves=leaves, columns=given, ask=ask)
                    self.assertEqual(key_orders(found), key_orders(told_in(tree, table, ask)))
        self.assertGreater(told.count(True), 100)
        self.assertGreater(told.count(False), 100)

    def test_any_leaf_below_the_node_tells(self):
        schema, columns = Schema(EXAMPLE), [None, 5, COLUMNS[2], COLUMNS[3]]
        for leaves in [[2], [3], [2, 3]]:
            self.assertEqual(answered(schema, leaves, columns, ("there", 4)), [False, True])
            self.assertEqual(answered(schema, leaves, columns, ("count", 5)), 1)
            self.assertEqual(answered(schema, leaves, columns, ("count", -1)), 2)
            self.assertEqual(answered(schema, leaves, columns, ("count", 1)), 2)
        for leaf in range(4):
            self.assertEqual(answered(schema, [leaf], COLUMNS, ("count", 0)), 2)

    def test_no_leaves(self):
        schema = Schema(EXAMPLE)
        for ask in plain_asks(tree_of(EXAMPLE)) + [deep_ask(3)]:
            self.assert_fault(("NotEnough", -1), answered, schema, [], [None, True, schema, "x"], ask)
        self.assert_fault(("InvalidAsk",), answered, schema, [], [None] * 4, ("values", 0))

    def test_not_enough_by_hand(self):
        schema = Schema(EXAMPLE)
        for leaves, ask, node in [
                ([0], ("values", 3), 3), ([2], ("values", 8), 8), ([2], ("lengths", 7), 7), ([0, 1], ("there", 4), 4),
                ([0, 1], ("count", 5), 4), ([1], ("where", -1, ("some", 8, "<", 1), ("sum", 6)), 6),
                ([2], ("where", -1, ("some", 8, "<", 1), ("sum", 6)), 8),
                ([0], ("where", 7, ("some", 8, "<", 1), ("count", 2)), 2),
                ([1], ("where", 7, ("some", 8, "<", 1), ("count", 2)), 8),
                ([3], ("where", 7, ("some", 8, "<", 1), ("count", 2)), 2)]:
            self.assert_fault(("NotEnough", node), answered, schema, leaves, COLUMNS, ask)

    def test_misfits_of_columns_that_are_not_chosen(self):
        schema = Schema(EXAMPLE)
        columns = [COLUMNS[0], [(0, 1, 4)], COLUMNS[2], [(0, 2, 1), (0, 0, None)]]
        self.assertEqual(answered(schema, [0, 2], columns, ("sum", 6)), 5)
        self.assertEqual(answered(schema, [0, 3], columns, ("sum", 8)), 1)
        self.assertEqual(answered(schema, [1], columns, ("sum", 3)), 4)
        self.assert_fault(("NotFitting", 3, 0), answered, schema, [0, 2, 3], columns, None)
        self.assert_fault(("NotFitting", 2, 1), answered, schema, [1, 2], columns, None)
        self.assert_fault(("NotFitting", 3, 1), answered, schema, [1, 3], columns, ("count", -1))
        self.assert_fault(("NotFitting", 1, 1), answered, schema, [0, 1, 2, 3], columns, ("count", -1))

    def test_misfits_of_many_schemas(self):
        rng, told = random.Random(109), []
        for tree in random_trees(150, seed=110, most_leaves=8):
            schema, columns = Schema(text_of(tree)), mixed_columns(rng, tree)
            leaves = sorted(rng.sample(range(len(schema)), rng.randint(1, len(schema))))
            found = misfit_in(cut_tree(tree, leaves), [columns[leaf] for leaf in leaves])
            wanted = ("InvalidAsk",) if found is None else ("NotFitting", leaves[found[0]], found[1])
            told.append(found is None)
            self.assert_fault(wanted, answered, schema, leaves, columns, None)
        self.assertTrue(True in told and False in told)


class Errors(Calls):

    def test_objects_that_are_no_ask(self):
        schema = Schema(EXAMPLE)
        for ask in NO_ASKS + [schema, ("count", schema), (schema, 0), ("where", schema, TEST, ("count", 0)),
                              ("where", 2, schema, ("count", 0)), ("where", 2, TEST, schema), InvalidAsk("count")]:
            self.assert_fault(("InvalidAsk",), needs_of, schema, ask)
            for table in [[], [FIRST, SECOND]]:
                self.assert_fault(("InvalidAsk",), told_of, schema, table, ask)
            for leaves in [[], [0], [0, 1, 2, 3]]:
                self.assert_fault(("InvalidAsk",), answered, schema, leaves, COLUMNS, ask)

    def test_words_at_nodes_of_other_kinds(self):
        for text in [DEEP, LISTS, TWELVE, "v", "[v]", "?v"]:
            tree, schema = tree_of(text), Schema(text)
            good = plain_asks(tree)
            for word, node in itertools.product(WORDS, range(-2, len(nodes_of(tree)) + 2)):
                wanted = None if (word, node) in good else ("InvalidAsk",)
                self.assert_fault(wanted, needs_of, schema, (word, node))

    def test_nodes_and_tests_of_where(self):
        tree, schema = tree_of(DEEP), Schema(DEEP)
        many = len(nodes_of(tree))
        for node, place in itertools.product(range(-2, many + 1), repeat=2):
            good = node in filter_nodes(tree) and place in value_nodes_under(tree, node)
            ask = ("where", node, ("all", place, "<", 0), ("count", 0))
            self.assert_fault(None if good else ("InvalidAsk",), needs_of, schema, ask)

    def test_tables_that_are_none(self):
        schema = Schema(EXAMPLE)
        for ask in [None, ("count", -1)]:
            for thing in OTHER_OBJECTS + [(FIRST,), schema]:
                self.assert_fault(("InvalidTable", -1), told_of, schema, thing, ask)
            self.assert_fault(("InvalidTable", 1), told_of, schema, [FIRST, None, SECOND, 0], ask)

    def test_which_error_comes_first(self):
        schema = Schema(EXAMPLE)
        for leaves in NO_LEAVES + [schema, [schema]]:
            for columns, ask in [(COLUMNS, ("count", -1)), (None, None), ([None] * 4, ("values", 8))]:
                self.assert_fault(("InvalidLeaf",), answered, schema, leaves, columns, ask)
        for columns in OTHER_OBJECTS + [[], COLUMNS[:3], COLUMNS + [[]], tuple(COLUMNS), schema]:
            for leaves, ask in [([], None), ([0, 1], ("count", -1)), ([0], ("values", 8))]:
                self.assert_fault(("InvalidColumns", -1, -1), answered, schema, leaves, columns, ask)
        for wrong, place in [(None, -1), ((), -1), ([None], 0), ([(0, 0, None), (2, 1, 1)], 1)]:
            columns = [[], wrong, None, []]
            self.assert_fault(("InvalidColumns", 1, place), answered, schema, [0, 1, 2], columns, None)
            self.assert_fault(("InvalidColumns", 1, place), answered, schema, [1, 3], columns, ("values", 1))
            self.assert_fault(("InvalidColumns", 2, -1), answered, schema, [0, 2], columns, ("values", 8))
            self.assert_fault(("InvalidAsk",), answered, schema, [0, 3], columns, None)
            self.assert_fault(("NotEnough", 6), answered, schema, [0, 3], columns, ("values", 6))
        columns = [[], [(0, 0, None)], [], []]
        self.assert_fault(("NotFitting", 1, 0), answered, schema, [0, 1], columns, None)
        self.assert_fault(("NotFitting", 1, 0), answered, schema, [0, 1], columns, ("values", 8))

    def test_functions_stand_in_their_file(self):
        for named in [needs_of, told_of, answered]:
            self.assertEqual(named.__module__, "levelcolumns.asks")

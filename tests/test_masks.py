"""Point 13: tests of elements of lists and of documents, masks, and filtered columns."""

import itertools
import random

from levelcolumns.fitting import joined
from levelcolumns.masks import filtered, mask
from levelcolumns.schemas import Schema
from tests.samples import (DEEP, EXAMPLE, OTHER_OBJECTS, TWELVE, columns_in, filter_nodes, holds, mixed_columns,
                           nodes_of, ordered, pieces_at, random_document, random_test, random_trees, text_of,
                           tree_of, value_nodes_under, with_bits)
from tests.test_columns import COLUMNS, FIRST, SECOND
from tests.test_fitting import misfit_in
from tests.tools import Calls, fault_of

LISTS = "{a:[{b:v c:[v] d:?v}] e:v}"

RECORD = {"a": [{"b": 1, "c": [], "d": ()}, {"b": 2, "c": [3, 4], "d": (5,)}, {"b": 3, "c": [1], "d": ()}], "e": 9}

BARE = {"a": [], "e": 8}


def nested(word, deep, inner=("some", 3, "=", 1)):
    """A test so deep, of the leaf of the example's tags."""
    while deep > 1:
        deep -= 1
        inner = ("not", inner) if word == "not" else (word, inner, ("all", 3, "<", 5))
    return inner


def samples(seed, many, most_leaves=8):
    rng = random.Random(seed)
    for tree in random_trees(many, seed=seed + 1, most_leaves=most_leaves):
        table = [random_document(rng, tree) for _ in range(rng.randint(0, 4))]
        yield rng, tree, Schema(text_of(tree)), [ordered(tree, part) for part in table]


class Masks(Calls):

    def assert_mask(self, text, table, node, test, wanted):
        schema = Schema(text)
        columns = columns_in(tree_of(text), table)
        found = self.result_of(mask, schema=schema, columns=columns, node=node, test=test)
        self.assertEqual(found, wanted, test)

    def test_some_and_all_with_each_sign(self):
        table = [[1, 2, 3], [2], [], [3, 3]]
        for test, wanted in [
                (("some", 1, "<", 2), [True, False, False, False]), (("all", 1, "<", 3), [False, True, True, False]),
                (("some", 1, "=", 2), [True, True, False, False]), (("all", 1, "=", 3), [False, False, True, True]),
                (("some", 1, ">", 2), [True, False, False, True]), (("all", 1, ">", 0), [True, True, True, True]),
                (("some", 1, ">", 10 ** 59), [False] * 4), (("all", 1, ">", 1 - 10 ** 60), [True] * 4)]:
            self.assert_mask("[v]", table, -1, test, wanted)

    def test_values_next_to_the_number(self):
        for word, (sign, number) in itertools.product(["some", "all"], itertools.product("<=>", range(-1, 4))):
            wanted = [{"<": value < number, "=": value == number, ">": value > number}[sign] for value in range(3)]
            self.assert_mask("[v]", [[0, 1], [2]], 0, (word, 1, sign, number), wanted)

    def test_no_values(self):
        for sign in "<=>":
            self.assert_mask("?v", [(), (1,)], -1, ("some", 1, sign, 1), [False, sign == "="])
            self.assert_mask("?v", [(), (1,)], -1, ("all", 1, sign, 1), [True, sign == "="])
            self.assert_mask("[v]", [], -1, ("some", 1, sign, 1), [])
            self.assert_mask("[v]", [[], []], 0, ("all", 1, sign, 1), [])

    def test_pieces_of_lists_by_hand(self):
        table = [RECORD, BARE, RECORD]
        for node, test, wanted in [
                (1, ("some", 3, ">", 1), [False, True, True] * 2), (1, ("all", 5, ">", 2), [True, True, False] * 2),
                (1, ("some", 5, "<", 4), [False, True, True] * 2), (1, ("some", 7, "=", 5), [False, True, False] * 2),
                (1, ("all", 7, "<", 5), [True, False, True] * 2), (4, ("some", 5, ">", 1), [True, True, False] * 2),
                (-1, ("some", 5, "=", 4), [True, False, True]), (-1, ("all", 3, ">", 0), [True, True, True]),
                (-1, ("some", 3, ">", 0), [True, False, True]), (-1, ("some", 8, "<", 9), [False, True, False])]:
            self.assert_mask(LISTS, table, node, test, wanted)

    def test_tests_in_tests(self):
        less, more = ("some", 5, "<", 4), ("all", 3, ">", 1)
        for test, wanted in [
                (("not", less), [True, False, False]), (("not", ("not", less)), [False, True, True]),
                (("both", less, more), [False, True, True]), (("either", less, more), [False, True, True]),
                (("both", ("not", less), more), [False, False, False]),
                (("either", ("not", less), more), [True, True, True]),
                (("both", less, ("some", 3, "=", 3)), [False, False, True]),
                (("either", ("some", 3, "=", 1), ("some", 3, "=", 3)), [True, False, True]),
                (("not", ("both", less, ("either", more, more))), [True, False, False])]:
            self.assert_mask(LISTS, [RECORD], 1, test, wanted)

    def test_many_schemas(self):
        told = []
        for rng, tree, schema, table in samples(91, 150):
            columns = columns_in(tree, table)
            for node in filter_nodes(tree):
                test = random_test(rng, tree, node)
                wanted = [holds(tree, node, test, piece) for piece in pieces_at(tree, node, table)]
                found = self.result_of(mask, schema=schema, columns=columns, node=node, test=test)
                self.assertEqual(found, wanted)
                told.extend(wanted)
        self.assertGreater(told.count(True), 100)
        self.assertGreater(told.count(False), 100)

    def test_three_hundred_documents(self):
        table = [dict(SECOND, name=number) for number in range(300)]
        columns = columns_in(tree_of(EXAMPLE), table)
        self.assertEqual(mask(Schema(EXAMPLE), columns, -1, ("some", 1, "<", 7)), [True] * 7 + [False] * 293)
        self.assertEqual(mask(Schema(EXAMPLE), columns, 2, ("some", 3, "<", 2)), [True, False] * 300)

    def test_twenty_deep(self):
        schema, columns = Schema(EXAMPLE), COLUMNS
        for word in ["not", "both", "either"]:
            for deep in [1, 2, 19, 20]:
                test = nested(word, deep)
                wanted = [holds(tree_of(EXAMPLE), 2, test, piece) for piece in [1, 2]]
                self.assertEqual(self.result_of(mask, schema=schema, columns=columns, node=2, test=test), wanted)
            for deep in [21, 22, 28]:
                self.assert_fault(("InvalidTest",), mask, schema, columns, 2, nested(word, deep))
        for word in ["both", "either"]:
            for turned in [(word, nested("not", 19), nested("not", 20)), (word, nested("not", 20), nested("not", 1))]:
                self.assert_fault(("InvalidTest",), mask, schema, columns, -1, turned)
            self.assertEqual(len(mask(schema, columns, -1, (word, nested("not", 19), nested("not", 19)))), 2)


class Filtered(Calls):

    def assert_filtered(self, text, table, node, bits, wanted):
        schema, tree = Schema(text), tree_of(text)
        found = self.result_of(filtered, schema=schema, columns=columns_in(tree, table), node=node, bits=bits)
        self.assertEqual(found, columns_in(tree, wanted))
        return found

    def test_lists_by_hand(self):
        first, second, third = RECORD["a"]
        for bits, kept in [
                ([True, True, True], [first, second, third]), ([False, True, True], [second, third]),
                ([True, False, True], [first, third]), ([True, True, False], [first, second]),
                ([True, False, False], [first]), ([False, True, False], [second]), ([False, False, True], [third]),
                ([False, False, False], [])]:
            wanted = dict(RECORD, a=kept)
            self.assert_filtered(LISTS, [RECORD], 1, bits, [wanted])
            self.assert_filtered(LISTS, [BARE, RECORD, BARE], 1, bits, [BARE, wanted, BARE])
            self.assert_filtered(LISTS, [RECORD, RECORD], 1, bits + [False, True, False],
                                 [wanted, dict(RECORD, a=[second])])

    def test_documents_by_hand(self):
        table = [FIRST, SECOND, dict(FIRST, name=3)]
        for bits in itertools.product([True, False], repeat=3):
            wanted = [part for part, bit in zip(table, bits) if bit]
            self.assert_filtered(EXAMPLE, table, -1, list(bits), wanted)

    def test_the_words_of_the_document(self):
        # The first kept entry has the r of the list's first entry; a list that keeps none has one entry.
        columns = [[(0, 2, 1), (2, 2, 2), (2, 2, 3), (1, 2, 4), (1, 1, None), (1, 2, 5), (0, 0, None)]]
        for bits, wanted in [
                ([True] * 5, columns[0]),
                ([False, False, True, True, True], [(0, 2, 3), (1, 2, 4), (1, 1, None), (1, 2, 5), (0, 0, None)]),
                ([False] * 3 + [True, True], [(0, 1, None), (1, 2, 4), (1, 1, None), (1, 2, 5), (0, 0, None)]),
                ([True, False, True, False, False],
                 [(0, 2, 1), (2, 2, 3), (1, 1, None), (1, 1, None), (1, 1, None), (0, 0, None)]),
                ([False] * 5, [(0, 1, None), (1, 1, None), (1, 1, None), (1, 1, None), (0, 0, None)])]:
            found = self.result_of(filtered, schema=Schema("[[v]]"), columns=columns, node=1, bits=bits)
            self.assertEqual(found, [wanted])
        for bits, wanted in [
                ([True, True, False, True], [(0, 2, 1), (2, 2, 2), (2, 2, 3), (1, 2, 4), (1, 2, 5), (0, 0, None)]),
                ([False, True, True, False], [(0, 2, 4), (1, 1, None), (0, 0, None)]),
                ([False, False, True, False], [(0, 1, None), (0, 0, None)]),
                ([False] * 4, [(0, 0, None), (0, 0, None)])]:
            self.assertEqual(filtered(Schema("[[v]]"), columns, 0, bits), [wanted])

    def test_no_document_stays(self):
        self.assertEqual(self.assert_filtered(EXAMPLE, [FIRST, SECOND], -1, [False, False], []), [[], [], [], []])
        self.assertEqual(self.assert_filtered(EXAMPLE, [], -1, [], []), [[], [], [], []])
        self.assert_filtered(EXAMPLE, [], 2, [], [])
        self.assert_filtered(EXAMPLE, [FIRST], 7, [], [FIRST])

    def test_other_columns_stay_as_they_are(self):
        found = self.assert_filtered(EXAMPLE, [FIRST, SECOND], 2, [False, True], [FIRST, dict(SECOND, tags=[2])])
        self.assertEqual([found[leaf] for leaf in [0, 2, 3]], [COLUMNS[leaf] for leaf in [0, 2, 3]])

    def test_many_schemas(self):
        for rng, tree, schema, table in samples(93, 200):
            columns = columns_in(tree, table)
            for node in filter_nodes(tree):
                many = len(pieces_at(tree, node, table))
                share = rng.choice([0, 0.2, 0.5, 0.8, 1])
                bits = [rng.random() < share for _ in range(many)]
                wanted = with_bits(tree, node, table, bits)
                found = self.result_of(filtered, schema=schema, columns=columns, node=node, bits=bits)
                self.assertEqual(found, columns_in(tree, wanted))
                self.assertEqual(joined(schema, found), wanted)

    def test_filters_one_behind_another(self):
        for rng, tree, schema, table in samples(95, 80):
            columns = columns_in(tree, table)
            for node in rng.choices(filter_nodes(tree), k=4):
                test = random_test(rng, tree, node, 3)
                bits = mask(schema, columns, node, test)
                table = with_bits(tree, node, table, bits)
                columns = filtered(schema, columns, node, bits)
                self.assertEqual(columns, columns_in(tree, table))

    def test_eight_lists_in_one_another(self):
        text, rng = "{a:" + "[" * 8 + "v" + "]" * 8 + " b:v}", random.Random(97)
        tree = tree_of(text)
        for _ in range(30):
            table = [random_document(rng, tree) for _ in range(2)]
            for node in filter_nodes(tree):
                bits = [rng.random() < 0.6 for _ in pieces_at(tree, node, table)]
                self.assert_filtered(text, table, node, bits, with_bits(tree, node, table, bits))

    def test_three_hundred_documents(self):
        table = [dict(SECOND, name=number) for number in range(300)]
        bits = [number % 3 == 0 for number in range(300)]
        self.assert_filtered(EXAMPLE, table, -1, bits, table[::3])


class Errors(Calls):

    def test_columns_that_are_none(self):
        schema = Schema(EXAMPLE)
        for thing in OTHER_OBJECTS + [[], COLUMNS[:3], COLUMNS + [[]], tuple(COLUMNS), schema]:
            for node, last in [(2, ("some", 3, "=", 1)), (99, None)]:
                self.assert_fault(("InvalidColumns", -1, -1), mask, schema, thing, node, last)
            for node, last in [(2, [True, True]), (99, None)]:
                self.assert_fault(("InvalidColumns", -1, -1), filtered, schema, thing, node, last)
        for function in [mask, filtered]:
            self.assert_fault(("InvalidColumns", 1, 0), function, schema, [[], [None], None, []], 99, None)
            self.assert_fault(("InvalidColumns", 3, -1), function, schema, [[], COLUMNS[1], [], ()], 99, None)

    def test_columns_that_do_not_fit(self):
        rng, told = random.Random(99), []
        for tree in random_trees(100, seed=100):
            columns = mixed_columns(rng, tree)
            wanted = misfit_in(tree, columns)
            told.append(wanted)
            fault = ("NotFitting",) + wanted if wanted else ("InvalidNode",)
            self.assertEqual(fault_of(mask, Schema(text_of(tree)), columns, 99, None), fault)
            self.assertEqual(fault_of(filtered, Schema(text_of(tree)), columns, -2, None), fault)
        self.assertTrue(any(told))

    def test_nodes_that_are_no_list(self):
        schema = Schema(EXAMPLE)
        for node in [-2, 0, 1, 3, 4, 5, 6, 8, 9, 10 ** 59, 1 - 10 ** 60]:
            for test in [None, ("some", 3, "=", 1)]:
                self.assert_fault(("InvalidNode",), mask, schema, COLUMNS, node, test)
            for bits in [None, [True, True]]:
                self.assert_fault(("InvalidNode",), filtered, schema, COLUMNS, node, bits)

    def test_leaves_that_are_not_below_the_node(self):
        for tree in [tree_of(EXAMPLE), tree_of(DEEP), tree_of(LISTS)]:
            schema, many = Schema(text_of(tree)), len(nodes_of(tree))
            columns = [[] for _ in range(len(schema))]
            for node in filter_nodes(tree):
                good = value_nodes_under(tree, node)
                for place in list(range(-3, many + 2)) + [10 ** 59, 1 - 10 ** 60]:
                    wanted = None if place in good else ("InvalidTest",)
                    comparison = ("some", place, "=", 1)
                    for test in [comparison, ("not", comparison), ("both", comparison, ("all", good[0], "<", 1)),
                                 ("either", ("all", good[0], "<", 1), comparison)]:
                        self.assert_fault(wanted, mask, schema, columns, node, test)

    def test_objects_that_are_no_test(self):
        schema, good = Schema(EXAMPLE), ("some", 3, "=", 1)
        wrong = OTHER_OBJECTS + [
            schema, list(good), good[:3], good[:2], good[:1], good + (1,), ("any", 3, "=", 1), ("Some", 3, "=", 1),
            ("", 3, "=", 1), (None, 3, "=", 1), (schema, 3, "=", 1), (True, 3, "=", 1), ("some", "3", "=", 1),
            ("some", None, "=", 1), ("some", True, "=", 1), ("some", (3,), "=", 1), ("some", schema, "=", 1),
            ("some", 3, "<=", 1), ("some", 3, "==", 1), ("some", 3, "", 1), ("some", 3, None, 1), ("some", 3, 0, 1),
            ("some", 3, schema, 1), ("some", 3, ["="], 1), ("some", 3, "=", True), ("some", 3, "=", False),
            ("some", 3, "=", None), ("some", 3, "=", "1"), ("some", 3, "=", (1,)), ("some", 3, "=", schema),
            ("not",), ("not", good, good), ("not", None), ("not", "some"), ("not", list(good)), ("not", ()),
            ("both",), ("both", good), ("both", good, good, good), ("both", good, None), ("both", None, good),
            ("both", [good, good]), ("either",), ("either", good), ("either", good, ()), ("either", 1, good),
            ("either", good, good, good), ("neither", good, good), ["not", good], [good], (good,), (good, good),
            ("not", ("not", ("some", 3, "=", True))), (["some"], 3, "=", 1), ({}, 3, "=", 1), {"some": 1}]
        for test in wrong:
            for node in [-1, 2]:
                self.assert_fault(("InvalidTest",), mask, schema, COLUMNS, node, test)
                self.assert_fault(("InvalidTest",), mask, schema, [[], [], [], []], node, test)

    def test_bits_that_are_none(self):
        schema = Schema(EXAMPLE)
        wrong = OTHER_OBJECTS + [schema, [True], [True] * 3, (True, True), [True, 1], [0, True], [0, 0], [1, 1],
                                 [True, None], [None, None], ["True", "True"], [True, [True]], [[True, True]],
                                 [True, schema], {0: True, 1: True}, [], [True, False, None]]
        for bits in wrong:
            for node in [-1, 2]:
                self.assert_fault(("InvalidMask",), filtered, schema, COLUMNS, node, bits)
        for node in [-1, 2, 7]:
            self.assert_fault(("InvalidMask",), filtered, schema, [[], [], [], []], node, [True])
            self.assert_fault(None, filtered, schema, [[], [], [], []], node, [])
        for many in range(5):
            wanted = None if many == 1 else ("InvalidMask",)
            self.assert_fault(wanted, filtered, schema, COLUMNS, 7, [True] * many)

    def test_twelve_leaves(self):
        columns = [[(0, 0, leaf)] for leaf in range(12)]
        self.assertEqual(mask(Schema(TWELVE), columns, -1, ("some", 12, "=", 11)), [True])
        self.assertEqual(filtered(Schema(TWELVE), columns, -1, [False]), [[] for _ in range(12)])

    def test_functions_stand_in_their_file(self):
        for named in [mask, filtered]:
            self.assertEqual(named.__module__, "levelcolumns.masks")

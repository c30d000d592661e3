"""Points 3, 4 (R1) and 8: columns of tables, and tables of columns."""

import itertools
import random

from levelcolumns.columns import column_fault, column_of, split, table_of
from levelcolumns.documents import table_fault
from levelcolumns.errors import InvalidLeaf
from levelcolumns.schemas import Schema, cut
from tests.samples import (DEEP, EXAMPLE, OTHER_OBJECTS, TWELVE, column_in, columns_in, cut_document, cut_tree,
                           leaves_of, random_document, random_trees, steps_to, text_of, tree_of)
from tests.tools import Calls

FIRST = {"name": 1, "tags": [], "at": ()}
SECOND = {"name": 2, "tags": [1, 2], "at": ({"x": 5, "y": [7]},)}

COLUMNS = [[(0, 0, 1), (0, 0, 2)], [(0, 0, None), (0, 1, 1), (1, 1, 2)],
           [(0, 0, None), (0, 1, 5)], [(0, 0, None), (0, 2, 7)]]

BY_HAND = [
    ("v", [3, -1], [(0, 0, 3), (0, 0, -1)]),
    ("?v", [(), (3,)], [(0, 0, None), (0, 1, 3)]),
    ("[v]", [[], [3, 4, 5], [6]], [(0, 0, None), (0, 1, 3), (1, 1, 4), (1, 1, 5), (0, 1, 6)]),
    ("[[v]]", [[], [[]], [[1, 2], [], [3]]],
     [(0, 0, None), (0, 1, None), (0, 2, 1), (2, 2, 2), (1, 1, None), (1, 2, 3)]),
    ("?[v]", [(), ([],), ([1, 2],)], [(0, 0, None), (0, 1, None), (0, 2, 1), (1, 2, 2)]),
    ("[?v]", [[], [()], [(1,), (), (2,)]], [(0, 0, None), (0, 1, None), (0, 2, 1), (1, 1, None), (1, 2, 2)]),
    ("??v", [(), ((),), ((1,),)], [(0, 0, None), (0, 1, None), (0, 2, 1)]),
    ("[?[v]]", [[(), ([1, 2],), ([],)]], [(0, 1, None), (1, 3, 1), (2, 3, 2), (1, 2, None)]),
    ("{a:[{b:[v]}]}", [{"a": [{"b": [1, 2]}, {"b": [3]}]}], [(0, 2, 1), (2, 2, 2), (1, 2, 3)])]


def documents_with(way, many):
    """All documents of a schema with this way, and so many entries in its column, as texts of the schema tell."""
    if way == "":
        return [0] if many == 1 else []
    if way[0] == "m":
        return [(inner,) for inner in documents_with(way[1:], many)] + ([()] if many == 1 else [])
    found = [[]] if many == 1 else []
    for parts in compositions(many):
        found.extend([list(inner) for inner in itertools.product(*[documents_with(way[1:], part) for part in parts])])
    return found


def compositions(many):
    """The lists of integers from 1 on with this sum."""
    if many == 0:
        return [[]]
    return [[first] + rest for first in range(1, many + 1) for rest in compositions(many - first)]


def text_with(way):
    return "".join({"m": "?", "l": "["}[sign] for sign in way) + "v" + "]" * way.count("l")


def columns_with(way, most):
    """All columns with at most so many entries of a leaf with this way, with 0 as each value."""
    tree = tree_of(text_with(way))
    found = {()}
    for many in range(1, most + 1):
        for parts in compositions(many):
            for table in itertools.product(*[documents_with(way, part) for part in parts]):
                found.add(tuple(column_in(tree, 0, table)))
    return found


class Columns(Calls):

    def test_the_example_of_the_document(self):
        schema = Schema(EXAMPLE)
        self.assertEqual(self.result_of(split, schema=schema, table=[FIRST, SECOND]), COLUMNS)
        for leaf, column in enumerate(COLUMNS):
            self.assertEqual(self.result_of(column_of, schema=schema, leaf=leaf, table=[FIRST, SECOND]), column)

    def test_small_columns_by_hand(self):
        for text, table, column in BY_HAND:
            self.assertEqual(self.result_of(column_of, schema=Schema(text), leaf=0, table=table), column)
            self.assertEqual(self.result_of(table_of, schema=Schema(text), leaf=0, column=column), table)
            self.assertIsNone(self.result_of(column_fault, schema=Schema(text), leaf=0, thing=column))

    def test_the_empty_table(self):
        for text in [EXAMPLE, DEEP, TWELVE, "v", "[v]", "?v"]:
            schema = Schema(text)
            self.assertEqual(self.result_of(split, schema=schema, table=[]), [[] for _ in range(len(schema))])
            self.assertEqual(column_of(schema, 0, []), [])
            self.assertIsNone(column_fault(schema, 0, []))
            self.assertEqual(self.result_of(table_of, schema=schema, leaf=0, column=[]), [])

    def test_names_in_another_sequence(self):
        table = [{name: document[name] for name in ["at", "tags", "name"]} for document in [FIRST, SECOND]]
        self.assertEqual(split(Schema(EXAMPLE), table), COLUMNS)

    def test_columns_of_many_tables(self):
        rng = random.Random(21)
        for tree in random_trees(120, seed=22):
            schema = Schema(text_of(tree))
            table = [random_document(rng, tree) for _ in range(rng.randint(0, 4))]
            columns = columns_in(tree, table)
            self.assertEqual(self.result_of(split, schema=schema, table=table), columns)
            for leaf, column in enumerate(columns):
                self.assertEqual(column_of(schema, leaf, table), column)
                self.assertIsNone(column_fault(schema, leaf, column))

    def test_tables_of_many_columns(self):
        rng = random.Random(23)
        for tree in random_trees(80, seed=24, most_leaves=6):
            schema = Schema(text_of(tree))
            table = [random_document(rng, tree) for _ in range(rng.randint(1, 4))]
            for leaf in range(len(schema)):
                small = cut_tree(tree, [leaf])
                wanted = [cut_document(small, part) for part in table]
                found = self.result_of(table_of, schema=schema, leaf=leaf, column=column_in(tree, leaf, table))
                self.assertEqual(found, wanted)
                self.assertIsNone(table_fault(cut(schema, [leaf]), found))

    def test_ways_as_deep_as_they_may_be(self):
        rng = random.Random(25)
        ways = [rng.choices("lm", k=8) for _ in range(40)] + [list("l" * 8), list("m" * 8)]
        for way in ways:
            text = "{a:" + text_with(way) + " b:{c:v}}"
            tree = tree_of(text)
            for _ in range(5):
                table = [random_document(rng, tree) for _ in range(2)]
                column = column_in(tree, 0, table)
                self.assertEqual(column_of(Schema(text), 0, table), column)
                self.assertEqual(table_of(Schema(text), 0, column), [{"a": part["a"]} for part in table])

    def test_three_hundred_documents(self):
        table = [dict(SECOND, name=number) for number in range(300)]
        columns = split(Schema(EXAMPLE), table)
        self.assertEqual(columns, columns_in(tree_of(EXAMPLE), table))
        self.assertEqual([len(column) for column in columns], [300, 600, 300, 300])
        self.assertEqual(table_of(Schema(EXAMPLE), 1, columns[1]), [{"tags": [1, 2]}] * 300)

    def test_four_hundred_entries(self):
        column = [(0, 2, 0)] + [((number % 3) and 2 or 1, 2, number) for number in range(1, 400)]
        table = table_of(Schema("[[v]]"), 0, column)
        self.assertEqual(len(table), 1)
        self.assertEqual([value for inner in table[0] for value in inner], list(range(400)))
        self.assertEqual([len(inner) for inner in table[0]], [3] * 133 + [1])
        self.assertEqual(column_of(Schema("[[v]]"), 0, table), column)
        self.assertEqual(column_fault(Schema("[[v]]"), 0, column + [(3, 2, 0)]), 400)

    def test_integers_of_sixty_digits(self):
        for value in [10 ** 60 - 1, 1 - 10 ** 60]:
            self.assertEqual(column_of(Schema("[v]"), 0, [[value]]), [(0, 1, value)])
            self.assertEqual(table_of(Schema("[v]"), 0, [(0, 1, value)]), [[value]])

    def test_drawn_columns_are_those_of_their_tables(self):
        for way, most in [("", 3), ("m", 4), ("l", 4), ("lm", 4), ("ml", 4), ("ll", 4), ("mlm", 3), ("lml", 3)]:
            schema = Schema(text_with(way))
            for column in sorted(columns_with(way, most), key=repr):
                table = table_of(schema, 0, list(column))
                self.assertIsNone(table_fault(schema, table))
                self.assertEqual(column_of(schema, 0, table), list(column))


class ColumnFault(Calls):

    def test_all_short_lists_of_entries(self):
        for way, most in [("", 3), ("m", 3), ("l", 4), ("lm", 3), ("ml", 3), ("ll", 3), ("mml", 2), ("lml", 3),
                          ("lll", 3), ("mlm", 2)]:
            schema, columns = Schema(text_with(way)), columns_with(way, most)
            levels = range(-1, way.count("l") + 2)
            entries = [(level, deep, value) for level in levels for deep in range(-1, len(way) + 2)
                       for value in (0, None)]
            good = [()]
            for many in range(1, most + 1):
                longer = [column + (entry,) for column in good for entry in entries]
                for column in longer:
                    wanted = None if column in columns else many - 1
                    self.assertEqual(column_fault(schema, 0, list(column)), wanted, (way, column))
                good = [column for column in longer if column in columns]

    def test_the_first_wrong_entry_is_told(self):
        schema = Schema("[[v]]")
        column = [(0, 2, 1), (2, 2, 2), (1, 1, None), (1, 2, 3), (0, 0, None), (0, 2, 4)]
        self.assertIsNone(column_fault(schema, 0, column))
        for place in range(6):
            for other in range(place, 6):
                wrong = list(column)
                wrong[other] = None
                wrong[place] = ()
                self.assertEqual(column_fault(schema, 0, wrong), place)
                self.assertEqual(column_fault(schema, 0, column[:place] + [(3, 2, 0)] + column[place:]), place)

    def test_entries_of_wrong_kinds(self):
        schema = Schema("[v]")
        good = [(0, 1, 5), (1, 1, 6)]
        wrong = OTHER_OBJECTS + [
            [1, 1, 5], [0, 1, 5], (0, 1), (0, 1, 5, 5), (), (0, 1, 5, None), ((0, 1, 5),), [(0, 1, 5)],
            (False, 1, 5), (True, 1, 5), (0, True, 5), (1, True, 5), (0, False, None), (0, 1, True), (0, 1, False),
            (0, 1, None), (1, 1, None), (0, 0, 5), (0, 0, 0), (0, 0, False), (0, 0, ()), (0, 0, []), (0, 0, ""),
            (0, 1, "5"), (0, 1, (5,)), (0, 1, [5]), ("0", 1, 5), (0, "1", 5), (None, 1, 5), (0, None, 5),
            (0, None, None), ((0,), 1, 5), ([], 1, 5), (0, [1], 5), (-1, 1, 5), (2, 1, 5), (0, 2, 5), (0, -1, None),
            (0, 2, None), (10 ** 59, 1, 5), (0, 10 ** 59, None), (0, 1 - 10 ** 60, None), (0, 1, Schema("v")),
            {"0": 0}, Schema("v"), (Schema("v"), 1, 5), (0, Schema("v"), 5)]
        for place, entry in itertools.product(range(3), wrong):
            column = good[:place] + [entry] + good[place:]
            self.assertEqual(self.result_of(column_fault, schema=schema, leaf=0, thing=column), place, repr(entry))

    def test_a_value_where_none_must_stand(self):
        schema = Schema(EXAMPLE)
        for leaf, entry in [(0, (0, 0, None)), (1, (0, 0, 1)), (1, (0, 1, None)), (2, (0, 0, 5)), (2, (0, 1, None)),
                            (3, (0, 1, 7)), (3, (0, 2, None)), (3, (0, 0, 0))]:
            self.assertEqual(column_fault(schema, leaf, COLUMNS[leaf] + [entry]), 2 if leaf != 1 else 3)

    def test_the_level_of_a_list_that_does_not_go_on(self):
        schema = Schema("[?[v]]")
        for before, entry, wanted in [
                ((0, 0, None), (1, 3, 0), 1), ((0, 0, None), (2, 3, 0), 1), ((0, 1, None), (1, 3, 0), None),
                ((0, 1, None), (2, 3, 0), 1), ((0, 2, None), (2, 3, 0), 1), ((0, 2, None), (1, 0, None), 1),
                ((0, 3, 0), (2, 2, None), 1), ((0, 3, 0), (2, 3, 0), None), ((0, 3, 0), (1, 1, None), None),
                ((0, 3, 0), (1, 0, None), 1), ((0, 3, 0), (3, 3, 0), 1), ((0, 3, 0), (0, 0, None), None)]:
            self.assertEqual(column_fault(schema, 0, [before, entry]), wanted, (before, entry))

    def test_the_first_level(self):
        for text, entry in [("[v]", (1, 1, 0)), ("[v]", (1, 0, None)), ("[[v]]", (2, 2, 0)), ("v", (1, 0, 0))]:
            self.assertEqual(column_fault(Schema(text), 0, [entry]), 0)

    def test_objects_that_are_no_list(self):
        for text in ["v", "[v]", EXAMPLE]:
            schema = Schema(text)
            self.assertEqual(column_fault(schema, 0, InvalidLeaf("0")), -1)
            self.assertEqual(column_fault(schema, 0, [InvalidLeaf("0")]), 0)
            for thing in OTHER_OBJECTS + [((0, 0, 1),), {"a": []}, schema, "(0, 0, 1)"]:
                for leaf in range(len(schema)):
                    self.assertEqual(self.result_of(column_fault, schema=schema, leaf=leaf, thing=thing), -1)

    def test_a_deep_object_as_an_entry(self):
        thing = 0
        for _ in range(28):
            thing = (thing,)
        self.assertEqual(column_fault(Schema("v"), 0, [(0, 0, thing)]), 0)
        self.assertEqual(column_fault(Schema("v"), 0, [thing]), 0)

    def test_columns_of_other_leaves(self):
        for tree in random_trees(40, seed=26):
            schema = Schema(text_of(tree))
            rng = random.Random(27)
            columns = columns_in(tree, [random_document(rng, tree) for _ in range(3)])
            ways = ["".join(sign for sign in steps_to(tree, leaf) if sign in "?[") for leaf in range(len(schema))]
            for leaf, second in itertools.product(range(len(leaves_of(tree))), repeat=2):
                if ways[leaf] == ways[second]:
                    self.assertIsNone(column_fault(schema, leaf, columns[second]))


class Errors(Calls):

    def test_leaves_that_are_none(self):
        for text, many in [(EXAMPLE, 4), ("v", 1), (TWELVE, 12)]:
            for leaf in [-1, many, many + 1, 10 ** 59, 1 - 10 ** 60]:
                for thing in [[], None, [None]]:
                    for function in [column_of, column_fault, table_of]:
                        self.assert_fault(("InvalidLeaf",), function, Schema(text), leaf, thing)

    def test_tables_that_are_none(self):
        schema = Schema(EXAMPLE)
        for thing in OTHER_OBJECTS + [(FIRST,), schema]:
            self.assert_fault(("InvalidTable", -1), split, schema, thing)
            self.assert_fault(("InvalidTable", -1), column_of, schema, 0, thing)
        for place in range(3):
            wrong = [FIRST, SECOND][:place] + [dict(SECOND, tags=[True])] + [FIRST, SECOND][place:]
            self.assert_fault(("InvalidTable", place), split, schema, wrong)
            # A column of the leaf would be there, but the table is none.
            self.assert_fault(("InvalidTable", place), column_of, schema, 0, wrong)

    def test_columns_that_are_none(self):
        schema = Schema(EXAMPLE)
        for leaf in range(4):
            for thing in OTHER_OBJECTS + [tuple(COLUMNS[leaf]), schema]:
                self.assert_fault(("InvalidColumns", leaf, -1), table_of, schema, leaf, thing)
            for place in range(3):
                wrong = COLUMNS[leaf][:place] + [(5, 0, 0)] + COLUMNS[leaf][place:]
                self.assert_fault(("InvalidColumns", leaf, place), table_of, schema, leaf, wrong)

    def test_functions_stand_in_their_file(self):
        for named in [column_of, split, column_fault, table_of]:
            self.assertEqual(named.__module__, "levelcolumns.columns")

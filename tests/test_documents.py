"""Points 3 and 7: documents, tables, and tables of a cut schema."""

import copy
import itertools
import random
import unittest

from levelcolumns.documents import cut_table, table_fault
from levelcolumns.errors import InvalidLeaf, InvalidTable
from levelcolumns.schemas import Schema, cut
from tests.samples import (DEEP, EXAMPLE, OTHER_OBJECTS, cut_document, cut_tree, random_document, random_trees,
                           text_of)
from tests.tools import key_orders, lists_and_dicts

FIRST = {"name": 1, "tags": [], "at": ()}
SECOND = {"name": 2, "tags": [1, 2], "at": ({"x": 5, "y": [7]},)}

DOCUMENTS = {
    "v": [0, 1, -1, 10 ** 60 - 1, 1 - 10 ** 60],
    "?v": [(), (0,), (-5,)],
    "[v]": [[], [0], [1, 1, -1], [7] * 300],
    "{a:v}": [{"a": 0}],
    "{a:v b:v}": [{"a": 0, "b": 1}, {"b": 1, "a": 0}],
    "??v": [(), ((),), ((3,),)],
    "[[v]]": [[], [[]], [[], [1], [2, 3]]],
    "[?v]": [[], [()], [(), (1,), ()]],
    "?[v]": [(), ([],), ([1, 2],)],
    "[{a:?v}]": [[], [{"a": ()}, {"a": (1,)}]],
    EXAMPLE: [FIRST, SECOND]}

NO_DOCUMENTS = {
    "v": [True, False, None, "0", "", (), (0,), [], [0], {}, {"a": 0}, Schema("v"), InvalidLeaf("0")],
    "?v": [None, 0, True, [], [0], {}, "", (True,), (None,), ("0",), (0, 1), (0, 0, 0), ((),), ((0,),), ([0],)],
    "[v]": [None, 0, False, (), (0,), {}, "", "0", [True], [None], [0, "0"], [[0]], [(0,)], [0, 1, False], {"a": 0}],
    "{a:v}": [None, 0, True, [], [0], (), {}, "a", ["a"], ("a",), {"b": 0}, {"a": 0, "b": 0}, {"a": True},
              {"a": None}, {"a": "0"}, {"a": [0]}, {"a": {"a": 0}}, {"A": 0}, {"": 0}, {"aa": 0}],
    "{a:v b:v}": [{"a": 0}, {"b": 0}, {"a": 0, "c": 0}, {"a": 0, "b": 0, "c": 0}, {"a": 0, "b": False}, [0, 1]],
    "??v": [(0,), ((0, 1),), ([],), ((True,),), ((), ())],
    "[[v]]": [[0], [[], 0], [[], ()], [[1], [True]], [[[0]]]],
    "[?v]": [[0], [()] * 3 + [(1, 2)], [[]], [(False,)]],
    "?[v]": [[], ((),), (0,), ([0], [0]), ([True],), ((1,),)],
    "[{a:?v}]": [[{}], [{"a": 0}], [{"a": ()}, {"a": (), "b": ()}], [{"a": []}], {"a": ()}, [["a"]]],
    EXAMPLE: [{"name": 1, "tags": []}, {"name": 1, "tags": [], "at": None}, {"name": 1, "tags": (), "at": ()},
              {"name": 1, "tags": [], "at": []}, {"name": 1, "tags": [], "at": ({"x": 5},)},
              {"name": 1, "tags": [], "at": ({"x": 5, "y": [7], "z": 1},)}, [1, [], ()],
              {"name": 1, "tags": [], "at": ({"x": 5, "y": [True]},)}, {"name": 1, "tags": [], "at": {"x": 5, "y": []}},
              {"name": 1, "tags": [], "at": ({"x": 5, "y": []}, {"x": 5, "y": []})}]}


class TableFault(unittest.TestCase):

    def test_tables(self):
        for text, documents in DOCUMENTS.items():
            schema = Schema(text)
            self.assertIsNone(table_fault(schema, []))
            self.assertIsNone(table_fault(schema=schema, thing=documents))
            for document in documents:
                self.assertIsNone(table_fault(schema, [document]), (text, document))

    def test_objects_that_are_no_list(self):
        for text in DOCUMENTS:
            for thing in OTHER_OBJECTS + [tuple(DOCUMENTS[text]), DOCUMENTS[EXAMPLE][0], Schema(text)]:
                self.assertEqual(table_fault(Schema(text), thing), -1)

    def test_one_wrong_document_alone(self):
        for text, things in NO_DOCUMENTS.items():
            for thing in things:
                self.assertEqual(table_fault(Schema(text), [thing]), 0, (text, thing))

    def test_one_wrong_document_at_any_place(self):
        for text, things in NO_DOCUMENTS.items():
            good = (DOCUMENTS[text] * 3)[:3]
            for place, thing in itertools.product(range(4), things):
                self.assertEqual(table_fault(Schema(text), good[:place] + [thing] + good[place:]), place)

    def test_the_first_wrong_document_is_told(self):
        self.assertEqual(table_fault(Schema("v"), [0, 1, None, 2, True]), 2)
        self.assertEqual(table_fault(Schema(EXAMPLE), [FIRST, SECOND, {}, None]), 2)

    def test_names_in_another_sequence(self):
        for names in itertools.permutations(["name", "tags", "at"]):
            document = {name: SECOND[name] for name in names}
            self.assertIsNone(table_fault(Schema(EXAMPLE), [document]))

    def test_three_hundred_documents(self):
        table = [dict(SECOND, name=number) for number in range(300)]
        self.assertIsNone(table_fault(Schema(EXAMPLE), table))
        for place in [0, 1, 150, 299]:
            wrong = table[:place] + [dict(SECOND, name=True)] + table[place + 1:]
            self.assertEqual(table_fault(Schema(EXAMPLE), wrong), place)

    def test_documents_as_deep_as_a_schema(self):
        schema = Schema("{a:" * 12 + "?[" * 4 + "v" + "]" * 4 + "}" * 12)

        def document(value):
            for _ in range(4):
                value = ([value],)
            for _ in range(12):
                value = {"a": value}
            return value

        self.assertIsNone(table_fault(schema, [document(0)]))
        self.assertEqual(table_fault(schema, [document(0), document(False)]), 1)
        self.assertEqual(table_fault(schema, [document([0])]), 0)

    def test_a_deep_object_is_no_document(self):
        thing = 0
        for _ in range(29):
            thing = [thing]
        self.assertEqual(table_fault(Schema("[v]"), [thing]), 0)

    def test_one_object_in_two_places(self):
        self.assertIsNone(table_fault(Schema(EXAMPLE), [SECOND, FIRST, SECOND]))

    def test_many_schemas(self):
        rng = random.Random(11)
        trees = random_trees(60, seed=12)
        for tree in trees:
            schema = Schema(text_of(tree))
            table = [random_document(rng, tree) for _ in range(5)]
            self.assertIsNone(table_fault(schema, table))
            for wrong in [None, [table[0]], (table[0],), {"a": table[0]}]:
                if tree[0] not in "?[":
                    self.assertEqual(table_fault(schema, table[:3] + [wrong]), 3)


class CutTable(unittest.TestCase):

    def test_the_example_of_the_document(self):
        schema = Schema(EXAMPLE)
        for leaves, wanted in [
                ([0], [{"name": 1}, {"name": 2}]),
                ([1], [{"tags": []}, {"tags": [1, 2]}]),
                ([2], [{"at": ()}, {"at": ({"x": 5},)}]),
                ([3], [{"at": ()}, {"at": ({"y": [7]},)}]),
                ([0, 2], [{"name": 1, "at": ()}, {"name": 2, "at": ({"x": 5},)}]),
                ([1, 2, 3], [{"tags": [], "at": ()}, {"tags": [1, 2], "at": ({"x": 5, "y": [7]},)}]),
                ([0, 1, 2, 3], [FIRST, SECOND])]:
            self.assertEqual(cut_table(schema, [FIRST, SECOND], leaves), wanted)
            self.assertEqual(cut_table(leaves=leaves, table=[FIRST, SECOND], schema=schema), wanted)

    def test_values_lists_and_maybes_at_the_top(self):
        for text in ["v", "?v", "[v]", "??v", "[[v]]", "[?v]", "?[v]"]:
            self.assertEqual(cut_table(Schema(text), DOCUMENTS[text], [0]), DOCUMENTS[text])

    def test_no_documents(self):
        self.assertEqual(cut_table(Schema(EXAMPLE), [], [1]), [])

    def test_three_hundred_documents(self):
        table = [dict(SECOND, name=number) for number in range(300)]
        self.assertEqual(cut_table(Schema(EXAMPLE), table, [0]), [{"name": number} for number in range(300)])

    def test_names_in_the_order_of_the_schema(self):
        document = {"at": ({"y": [], "x": 1},), "tags": [], "name": 3}
        result = cut_table(Schema(EXAMPLE), [document], [0, 1, 2, 3])
        self.assertEqual(list(result[0]), ["name", "tags", "at"])
        self.assertEqual(list(result[0]["at"][0]), ["x", "y"])
        self.assertEqual(list(cut_table(Schema("{b:v a:v c:v}"), [{"c": 1, "a": 2, "b": 3}], [0, 1])[0]), ["b", "a"])

    def test_many_schemas(self):
        rng = random.Random(13)
        for tree in random_trees(80, seed=14, most_leaves=7):
            schema = Schema(text_of(tree))
            table = [random_document(rng, tree) for _ in range(4)]
            for many in range(1, len(schema) + 1):
                leaves = sorted(rng.sample(range(len(schema)), many))
                result = cut_table(schema, table, leaves)
                small = cut_tree(tree, leaves)
                self.assertEqual(key_orders(result), key_orders([cut_document(small, part) for part in table]))
                self.assertIsNone(table_fault(cut(schema, leaves), result))

    def test_all_lists_and_dicts_are_new(self):
        shared, inner = [7], {"x": 5, "y": [7]}
        table = [{"name": 1, "tags": shared, "at": ({"x": 5, "y": shared},)}, {"name": 2, "tags": [], "at": (inner,)},
                 {"name": 2, "tags": shared, "at": (inner,)}]
        table.append(table[0])
        schema = Schema(EXAMPLE)
        first, again = cut_table(schema, table, [0, 1, 2, 3]), cut_table(schema, table, [0, 1, 2, 3])
        places = [id(thing) for thing in lists_and_dicts(first) + lists_and_dicts(again)]
        self.assertEqual(len(places), len(set(places)))
        self.assertFalse(set(places) & {id(thing) for thing in lists_and_dicts(table)})

    def test_a_changed_result_changes_nothing(self):
        schema, table = Schema(EXAMPLE), [copy.deepcopy(FIRST), copy.deepcopy(SECOND)]
        wanted = copy.deepcopy(table)
        result = cut_table(schema, table, [0, 1, 2, 3])
        for thing in lists_and_dicts(result):
            thing.clear()
        self.assertEqual(table, wanted)
        self.assertEqual(cut_table(schema, table, [0, 1, 2, 3]), wanted)

    def test_arguments_stay_as_they_are(self):
        table, leaves = [{"at": ({"y": [1], "x": 1},), "tags": [2], "name": 3}], [0, 2]
        before, orders = copy.deepcopy(table), key_orders(table)
        cut_table(Schema(EXAMPLE), table, leaves)
        table_fault(Schema(EXAMPLE), table)
        self.assertEqual((table, key_orders(table), leaves), (before, orders, [0, 2]))

    def test_wrong_tables(self):
        for text, things in NO_DOCUMENTS.items():
            schema = Schema(text)
            for thing in things:
                with self.assertRaises(InvalidTable) as caught:
                    cut_table(schema, DOCUMENTS[text] + [thing], [0])
                self.assertEqual(caught.exception.index, len(DOCUMENTS[text]))
            for thing in OTHER_OBJECTS + [schema]:
                with self.assertRaises(InvalidTable) as caught:
                    cut_table(schema, thing, [0])
                self.assertEqual(caught.exception.index, -1)

    def test_wrong_leaves(self):
        schema = Schema(EXAMPLE)
        lists = [[], [4], [-1], [0, 4], [1, 0], [0, 0], [2, 3, 1], [True], [0, True], ["0"], [None], [(0,)],
                 [10 ** 59], [1 - 10 ** 60], [[0]]]
        for leaves in lists + OTHER_OBJECTS + [schema]:
            for table in [[], [FIRST, SECOND]]:
                with self.assertRaises(InvalidLeaf, msg=repr(leaves)):
                    cut_table(schema, table, leaves)

    def test_the_first_wrong_argument_decides(self):
        for leaves in [[], None, [9], [1, 0]]:
            with self.assertRaises(InvalidTable) as caught:
                cut_table(Schema(DEEP), [None], leaves)
            self.assertEqual(caught.exception.index, 0)

    def test_functions_stand_in_their_file(self):
        for named in [table_fault, cut_table]:
            self.assertEqual(named.__module__, "levelcolumns.documents")


if __name__ == "__main__":
    unittest.main()

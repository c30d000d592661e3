"""Points 3 and 6: schemas, their nodes, leaves and ways, and cut schemas."""

import itertools
import unittest

from levelcolumns.errors import InvalidLeaf, InvalidNode
from levelcolumns.schemas import Schema, cut, kinds, leaf_nodes, matching, meeting, way_of
from tests.samples import (DEEP, EXAMPLE, OTHER_OBJECTS, TWELVE, cut_tree, leaves_of, meeting_in, nodes_of,
                           random_trees, text_of, way_in)

KIND_OF = {"v": "value", "?": "maybe", "[": "list", "{": "record"}


class MadeSchemas(unittest.TestCase):

    def test_text_is_kept(self):
        for text in ["v", "?v", "[v]", "{a:v}", EXAMPLE, DEEP, TWELVE]:
            self.assertEqual(Schema(text).text, text)
            self.assertEqual(Schema(text=text).text, text)

    def test_length_is_the_number_of_leaves(self):
        for text, many in [("v", 1), ("?[v]", 1), ("{a:v b:v}", 2), (EXAMPLE, 4), (DEEP, 6), (TWELVE, 12)]:
            self.assertEqual(len(Schema(text)), many)

    def test_equal_schemas(self):
        texts = ["v", "?v", "[v]", "{a:v}", "{b:v}", "{a:v b:v}", "{b:v a:v}", EXAMPLE]
        for one, other in itertools.product(texts, repeat=2):
            self.assertIs(Schema(one) == Schema(other), one == other)
            self.assertIs(Schema(one) != Schema(other), one != other)

    def test_other_objects_are_not_equal(self):
        for thing in OTHER_OBJECTS + [["v"], [], ValueError("v"), InvalidLeaf("v")]:
            self.assertIs(Schema("v") == thing, False)
            self.assertIs(Schema("v") != thing, True)
            self.assertIs(thing == Schema("v"), False)

    def test_methods_stand_in_the_class(self):
        for name in ["__init__", "text", "__len__", "__eq__"]:
            self.assertIn(name, vars(Schema))
        with self.assertRaises(AttributeError):
            Schema("v").text = "[v]"

    def test_functions_stand_in_their_file(self):
        for named in [Schema, kinds, leaf_nodes, way_of, meeting, cut, matching]:
            self.assertEqual(named.__module__, "levelcolumns.schemas")


class Nodes(unittest.TestCase):

    def test_the_example_of_the_document(self):
        schema = Schema(EXAMPLE)
        self.assertEqual(kinds(schema), ["record", "value", "list", "value", "maybe", "record", "value", "list",
                                         "value"])
        self.assertEqual(leaf_nodes(schema), [1, 3, 6, 8])
        ways = [way_of(schema, node) for node in range(-1, 9)]
        self.assertEqual(ways, ["", "", "", "l", "l", "m", "m", "m", "ml", "ml"])

    def test_the_smallest_schemas(self):
        self.assertEqual((kinds(Schema("v")), leaf_nodes(Schema("v"))), (["value"], [0]))
        self.assertEqual((kinds(Schema("?v")), leaf_nodes(Schema("?v"))), (["maybe", "value"], [1]))
        self.assertEqual((kinds(Schema("[v]")), leaf_nodes(Schema("[v]"))), (["list", "value"], [1]))
        self.assertEqual((kinds(Schema("{a:v}")), leaf_nodes(Schema("{a:v}"))), (["record", "value"], [1]))

    def test_parts_in_one_another(self):
        schema = Schema(DEEP)
        self.assertEqual(kinds(schema), [
            "record", "list", "maybe", "list", "value", "maybe", "record", "list", "record", "value", "maybe",
            "value", "record", "list", "value", "value", "maybe", "maybe", "list", "list", "maybe", "value"])
        self.assertEqual(leaf_nodes(schema), [4, 9, 11, 14, 15, 21])
        ways = [way_of(schema, node) for node in range(-1, 22)]
        self.assertEqual(ways, ["", "", "l", "lm", "lml", "lml", "m", "m", "ml", "ml", "ml", "mlm", "mlm", "ml",
                                "mll", "mll", "m", "m", "mm", "mml", "mmll", "mmllm", "mmllm"])

    def test_many_schemas(self):
        for tree in random_trees(150, seed=1):
            schema = Schema(text_of(tree))
            found = nodes_of(tree)
            self.assertEqual(kinds(schema=schema), [KIND_OF[sign] for sign, _ in found])
            self.assertEqual(leaf_nodes(schema=schema), leaves_of(tree))
            self.assertEqual(len(schema), len(leaves_of(tree)))
            for node in range(-1, len(found)):
                self.assertEqual(way_of(schema=schema, node=node), way_in(tree, node))

    def test_numbers_that_are_no_nodes(self):
        for text, many in [("v", 1), (EXAMPLE, 9), (DEEP, 22)]:
            for node in [-2, -10, -10 ** 59, many, many + 1, 10 ** 59, 10 ** 60 - 1, 1 - 10 ** 60]:
                with self.assertRaises(InvalidNode):
                    way_of(Schema(text), node)


class Meetings(unittest.TestCase):

    def test_the_example_of_the_document(self):
        schema = Schema(EXAMPLE)
        table = [[meeting(schema, leaf, second) for second in range(4)] for leaf in range(4)]
        self.assertEqual(table, [[1, 0, 0, 0], [0, 3, 0, 0], [0, 0, 6, 5], [0, 0, 5, 8]])

    def test_parts_in_one_another(self):
        schema = Schema(DEEP)
        table = [[meeting(schema, leaf, second) for second in range(6)] for leaf in range(6)]
        self.assertEqual(table, [[4, 0, 0, 0, 0, 0], [0, 9, 8, 8, 6, 0], [0, 8, 11, 8, 6, 0], [0, 8, 8, 14, 6, 0],
                                 [0, 6, 6, 6, 15, 0], [0, 0, 0, 0, 0, 21]])

    def test_all_pairs_of_many_schemas(self):
        for tree in random_trees(60, seed=2):
            schema = Schema(text_of(tree))
            for leaf, second in itertools.product(range(len(schema)), repeat=2):
                self.assertEqual(meeting(schema, leaf, second), meeting_in(tree, leaf, second))
                self.assertEqual(meeting(second=second, leaf=leaf, schema=schema), meeting_in(tree, leaf, second))

    def test_numbers_that_are_no_leaves(self):
        schema = Schema(EXAMPLE)
        for wrong in [-1, -2, 4, 8, 10 ** 59, 10 ** 60 - 1, 1 - 10 ** 60]:
            for leaf, second in [(wrong, 0), (0, wrong), (wrong, wrong)]:
                with self.assertRaises(InvalidLeaf):
                    meeting(schema, leaf, second)


class Booleans(unittest.TestCase):

    def test_booleans_are_no_nodes_and_no_leaves(self):
        schema = Schema(EXAMPLE)
        for wrong in [True, False]:
            with self.assertRaises(InvalidNode):
                way_of(schema, wrong)
            with self.assertRaises(InvalidLeaf):
                meeting(schema, wrong, 0)
            with self.assertRaises(InvalidLeaf):
                meeting(schema, 0, wrong)


class CutSchemas(unittest.TestCase):

    def test_the_example_of_the_document(self):
        schema = Schema(EXAMPLE)
        for leaves, text in [([0], "{name:v}"), ([1], "{tags:[v]}"), ([2], "{at:?{x:v}}"), ([3], "{at:?{y:[v]}}"),
                             ([0, 3], "{name:v at:?{y:[v]}}"), ([1, 2], "{tags:[v] at:?{x:v}}"),
                             ([2, 3], "{at:?{x:v y:[v]}}"), ([0, 1, 2, 3], EXAMPLE)]:
            self.assertEqual(cut(schema, leaves).text, text)
            self.assertEqual(cut(leaves=leaves, schema=schema), Schema(text))

    def test_one_leaf_alone(self):
        for text in ["v", "?v", "[v]", "{a:v}", "?[{a:{b:??v}}]"]:
            self.assertEqual(cut(Schema(text), [0]), Schema(text))

    def test_many_schemas(self):
        for tree in random_trees(30, seed=3, most_leaves=6):
            schema = Schema(text_of(tree))
            for many in range(1, len(schema) + 1):
                for leaves in itertools.combinations(range(len(schema)), many):
                    wanted = text_of(cut_tree(tree, leaves))
                    self.assertEqual(cut(schema, list(leaves)).text, wanted)

    def test_cut_again(self):
        schema = Schema(DEEP)
        once = cut(schema, [1, 2, 3, 5])
        self.assertEqual(once.text, "{b:?{c:[{d:v e:?v f:{g:[v]}}]} i:??[[?v]]}")
        self.assertEqual(cut(once, [1, 2]).text, "{b:?{c:[{e:?v f:{g:[v]}}]}}")
        self.assertEqual(cut(once, [1, 2]), cut(schema, [2, 3]))
        self.assertEqual(cut(once, [0, 1, 2, 3]), once)

    def test_objects_that_are_no_leaves(self):
        schema = Schema(EXAMPLE)
        lists = [[], [4], [-1], [0, 4], [-1, 0], [1, 0], [0, 0], [2, 1, 3], [0, 1, 1], [10 ** 59], [1 - 10 ** 60],
                 [True], [False], [0, True], [False, 1], ["0"], [None], [[0]], [(0,)], [0, [1]], [{}], [schema]]
        for leaves in lists + OTHER_OBJECTS + [schema, {"0": 0}, InvalidLeaf("0")]:
            with self.assertRaises(InvalidLeaf, msg=repr(leaves)):
                cut(schema, leaves)


class NewResults(unittest.TestCase):

    def test_a_changed_result_changes_no_later_one(self):
        schema = Schema(EXAMPLE)
        for call in [lambda: kinds(schema), lambda: leaf_nodes(schema), lambda: matching(schema, schema)]:
            wanted = list(call())
            call().reverse()
            call().clear()
            self.assertEqual(call(), wanted)
            self.assertIsNot(call(), call())

    def test_arguments_stay_as_they_are(self):
        schema = Schema(DEEP)
        before = dict(vars(schema))
        leaves = [0, 2, 5]
        cut(schema, leaves)
        kinds(schema)
        leaf_nodes(schema)
        meeting(schema, 0, 5)
        way_of(schema, 3)
        matching(schema, Schema(DEEP))
        self.assertEqual(leaves, [0, 2, 5])
        self.assertEqual(vars(schema), before)
        self.assertEqual(schema.text, DEEP)

    def test_schemas_keep_nothing_that_can_be_changed(self):
        for value in vars(Schema(DEEP)).values():
            hash(value)


if __name__ == "__main__":
    unittest.main()

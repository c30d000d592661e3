"""Point 16: changed schemas, and the columns that go with them."""

import random

from levelcolumns.evolve import cut_columns, into_list, into_maybe, out_of, with_field
from levelcolumns.fitting import joined
from levelcolumns.schemas import Schema
from tests.edited import all_ends, drawn, nodes_with, tree_at, tree_with, way_above, with_each_part
from tests.samples import (DEEP, EXAMPLE, OTHER_OBJECTS, TWELVE, columns_in, cut_document, cut_tree, leaves_of,
                           mixed_columns, nodes_of, ordered, parts_at, random_tree, random_trees, text_of, tree_of)
from tests.test_columns import COLUMNS, FIRST, SECOND
from tests.test_fitting import misfit_in
from tests.test_questions import NO_LEAVES, leaves_under
from tests.tools import Calls, fault_of

NO_NAMES = [thing for thing in OTHER_OBJECTS if thing != "v"] + [
    "A", "aB", "a1", "1", "a_b", "a b", " a", "a ", "a:", ":", "a\n", "abcdefghi", "abcdefghij", "{a", "a" * 4000, "-", "?",
    ["a"], ("a",), {"a": "a"}, ["abc"], Schema("v"), "`", "{", "@", "["]


def is_schema(text):
    return fault_of(Schema, text) is None


def not_single_in(tree, node, table):
    """The leaf and the entry at which it first shows that a maybe or list is not just one; None if all are."""
    leaf = leaves_under(tree, node)[0]
    at = len(way_above(tree, node)) + 1
    for index, ends in enumerate(all_ends(tree, leaf, table)):
        # The place of an element beyond the first one, or of what does not go on.
        if None not in ends[1:at] and (ends[at] is None or ends[at] > 0):
            return leaf, index
    return None


def nested_text(signs):
    return "".join({"?": "?", "[": "[", "{": "{a:"}[sign] for sign in signs) + "v" + "".join(
        {"?": "", "[": "]", "{": "}"}[sign] for sign in reversed(signs))


def long_tail(many):
    """A field of just so many characters, of records in one another."""
    if many <= 10:
        return "t" * (many - 2) + ":v"
    name = "t" * min(8, many - 6)
    return f"{name}:{{{long_tail(many - len(name) - 3)}}}"


def text_of_length(many):
    """A schema with 11 leaves and just so many characters."""
    fields = [f"{letter * 8}:{{{letter * 8}:{{{letter * 8}:v}}}}" for letter in "abcdefghij"]
    text = " ".join(fields)
    return "{" + text + " " + long_tail(many - len(text) - 3) + "}"


class Evolved(Calls):

    def assert_evolved(self, tree, table, new_tree, new_table, function, **named):
        schema, columns = Schema(text_of(tree)), columns_in(tree, table)
        named = dict({"schema": schema, "columns": columns}, **named)
        found = self.pair_of(function, **named)
        self.assertEqual(found[0].text, text_of(new_tree))
        self.assertEqual(found[1], columns_in(new_tree, new_table))
        self.assertEqual(joined(found[0], found[1]), new_table)
        return found

    def pair_of(self, function, **named):
        """What the function returns, of which the schema is looked at by itself."""
        schemas = []

        def columns_alone(**inner):
            schema, columns = function(**inner)
            schemas.append(schema)
            return schema.text, columns

        text, columns = self.result_of(lambda *values, **inner: columns_alone(**dict(zip(named, values), **inner)), **named)
        result = function(*named.values())
        self.assertIs(type(result), tuple)
        self.assertEqual(len(result), 2)
        for schema in schemas:
            self.assertEqual(schema, Schema(text))
        return Schema(text), columns


class Fields(Evolved):

    def test_the_example_by_hand(self):
        for node, name, text, wanted, column in [
                (0, "z", "v", "{name:v tags:[v] at:?{x:v y:[v]} z:?v}", [(0, 0, None), (0, 0, None)]),
                (5, "name", "[v]", "{name:v tags:[v] at:?{x:v y:[v] name:?[v]}}", [(0, 0, None), (0, 1, None)]),
                (0, "abcdefgh", "??v", "{name:v tags:[v] at:?{x:v y:[v]} abcdefgh:???v}", [(0, 0, None), (0, 0, None)])]:
            schema, columns = self.pair_of(with_field, schema=Schema(EXAMPLE), columns=COLUMNS, node=node, name=name,
                                           text=text)
            self.assertEqual(schema.text, wanted)
            self.assertEqual(columns, COLUMNS + [column])
        schema, columns = with_field(Schema("{a:[{b:v}] c:v}"), [[(0, 1, 1), (1, 1, 2), (0, 0, None)], [(0, 0, 3), (0, 0, 4)]],
                                     2, "c", "{d:v e:[v]}")
        self.assertEqual(schema.text, "{a:[{b:v c:?{d:v e:[v]}}] c:v}")
        new = [(0, 1, None), (1, 1, None), (0, 0, None)]
        self.assertEqual(columns, [[(0, 1, 1), (1, 1, 2), (0, 0, None)], new, new, [(0, 0, 3), (0, 0, 4)]])

    def test_many_schemas(self):
        met = 0
        for rng, tree, schema, table in drawn(161, 150):
            for node in nodes_with(tree, "{"):
                added = random_tree(rng, rng.randint(1, 3), 6, 4)
                name = rng.choice(["new", "a", "zzzzzzzz"])
                new_tree = tree_with(tree, node, lambda part: ("{", part[1] + [(name, ("?", added))]))
                wanted = with_each_part(tree, table, node, lambda part: dict(part, **{name: ()}))
                named = {"node": node, "name": name, "text": text_of(added)}
                if is_schema(text_of(new_tree)):
                    self.assert_evolved(tree, table, new_tree, wanted, with_field, **named)
                    met += 1
                else:
                    fault = fault_of(with_field, schema, columns_in(tree, table), **named)
                    self.assertEqual(fault, ("TooLarge",))
        self.assertGreater(met, 100)

    def test_cut_columns_behind_a_new_field(self):
        for rng, tree, schema, table in drawn(163, 80):
            columns = columns_in(tree, table)
            for node in nodes_with(tree, "{"):
                if fault_of(with_field, schema, columns, node, "new", "[v]") is None:
                    wider, more = with_field(schema, columns, node, "new", "[v]")
                    place = leaves_under(tree, node)[-1] + 1
                    leaves = [leaf for leaf in range(len(wider)) if leaf != place]
                    self.assertEqual(cut_columns(wider, more, leaves), (schema, columns))

    def test_names(self):
        schema = Schema(EXAMPLE)
        for name in NO_NAMES + ["name", "tags", "at"]:
            for text in ["v", "x"]:
                self.assert_fault(("InvalidField",), with_field, schema, COLUMNS, 0, name, text)
        for name in ["x", "y"]:
            self.assert_fault(("InvalidField",), with_field, schema, COLUMNS, 5, name, "v")
            self.assert_fault(None, with_field, schema, COLUMNS, 0, name, "v")
        for name in ["a", "z", "az", "abcdefgh", "zzzzzzzz", "nam", "names", "v"]:
            for node in [0, 5]:
                self.assert_fault(None, with_field, schema, COLUMNS, node, name, "v")

    def test_texts_that_are_no_schema(self):
        schema = Schema(EXAMPLE)
        for text, place in [("", 0), ("x", 0), ("v ", 1), (" v", 0), ("vv", 1), ("?", 1), ("[v", 2), ("{a:v a:v}", 6),
                            ("{}", 1), ("{a:v", 4), ("v\n", 1), ("[" * 9 + "v" + "]" * 9, 8), ("?" * 9 + "v", 8),
                            ("{" + " ".join(f"{letter}:v" for letter in "abcdefghijklm") + "}", 51)]:
            self.assertEqual(fault_of(Schema, text), ("InvalidText", place))
            for node, name in [(0, "z"), (5, "name")]:
                self.assert_fault(("InvalidText", place), with_field, schema, COLUMNS, node, name, text)

    def test_new_schemas_at_each_limit_and_beyond(self):
        eleven = "{" + " ".join(f"{letter}:v" for letter in "abcdefghijk") + "}"
        cases = [
            # Leaves: 12 and 13.
            (eleven, 0, "v", "v"), (eleven, 0, "{a:v b:v}", None), (TWELVE, 0, "v", None),
            # Open nodes above a leaf: 8 and 9.
            ("{a:v}", 0, "?" * 7 + "v", "v"), ("{a:v}", 0, "?" * 8 + "v", None),
            ("[[[[{a:v}]]]]", 4, "???v", "v"), ("[[[[{a:v}]]]]", 4, "????v", None),
            # Nodes above a leaf: 20 and 21.
            ("{a:v}", 0, nested_text("{" * 18), "v"), ("{a:v}", 0, nested_text("{" * 19), None),
            ("{a:v}", 0, nested_text("{" * 20), None),
            # Nodes: 40 and 41.
            ("{a:" + nested_text("{" * 18) + "}", 0, nested_text("{" * 18), "v"),
            ("{a:" + nested_text("{" * 19) + " b:v}", 0, nested_text("{" * 16), "v"),
            ("{a:" + nested_text("{" * 19) + " b:v}", 0, nested_text("{" * 17), None)]
        for text, node, added, good in cases:
            schema = Schema(text)
            columns = [[] for _ in range(len(schema))]
            wanted = None if good else ("TooLarge",)
            self.assert_fault(wanted, with_field, schema, columns, node, "zz", added)
            if good:
                self.assertEqual(with_field(schema, columns, node, "zz", added)[1],
                                 columns + [[] for _ in range(len(Schema(added)))])

    def test_four_hundred_characters(self):
        for many in range(380, 401):
            schema, columns = Schema(text_of_length(many)), [[] for _ in range(11)]
            self.assertEqual(len(schema.text), many)
            for name, added in [("z", "v"), ("zz", "v"), ("zzzzzzzz", "v"), ("z", "[v]"), ("z", "{y:v}"), ("zzz", "?v")]:
                wanted = None if many + len(name) + len(added) + 3 <= 400 else ("TooLarge",)
                self.assert_fault(wanted, with_field, schema, columns, 0, name, added)

    def test_which_error_comes_first(self):
        schema = Schema(EXAMPLE)
        for thing in OTHER_OBJECTS + [[], COLUMNS[:3], tuple(COLUMNS), schema]:
            self.assert_fault(("InvalidColumns", -1, -1), with_field, schema, thing, 1, None, "x")
        for node in [-1, 1, 2, 3, 4, 6, 7, 8, 9, 10 ** 59, 1 - 10 ** 60]:
            self.assert_fault(("InvalidNode",), with_field, schema, COLUMNS, node, "z", "v")
            self.assert_fault(("InvalidNode",), with_field, schema, COLUMNS, node, None, "x")
        self.assert_fault(("InvalidField",), with_field, schema, COLUMNS, 0, "name", "x")
        full = Schema(TWELVE)
        columns = [[] for _ in range(12)]
        self.assert_fault(("InvalidField",), with_field, full, columns, 0, "a", "v")
        self.assert_fault(("InvalidText", 1), with_field, full, columns, 0, "z", "vv")
        self.assert_fault(("TooLarge",), with_field, full, columns, 0, "z", "v")


class Cuts(Evolved):

    def test_many_schemas(self):
        for rng, tree, schema, table in drawn(165, 150):
            leaves = sorted(rng.sample(range(len(schema)), rng.randint(1, len(schema))))
            new_tree = cut_tree(tree, leaves)
            wanted = [ordered(new_tree, cut_document(new_tree, part)) for part in table]
            self.assert_evolved(tree, table, new_tree, wanted, cut_columns, leaves=leaves)

    def test_the_example_by_hand(self):
        found = self.pair_of(cut_columns, schema=Schema(EXAMPLE), columns=COLUMNS, leaves=[0, 3])
        self.assertEqual(found, (Schema("{name:v at:?{y:[v]}}"), [COLUMNS[0], COLUMNS[3]]))

    def test_errors(self):
        schema = Schema(EXAMPLE)
        for leaves in NO_LEAVES + [[], schema, [schema]]:
            self.assert_fault(("InvalidLeaf",), cut_columns, schema, COLUMNS, leaves)
        for thing in OTHER_OBJECTS + [[], COLUMNS[:3], tuple(COLUMNS), schema]:
            self.assert_fault(("InvalidColumns", -1, -1), cut_columns, schema, thing, None)
            self.assert_fault(("InvalidColumns", -1, -1), cut_columns, schema, thing, [0])


class Into(Evolved):

    def test_the_example_by_hand(self):
        for function, node, text, wanted in [
                (into_maybe, 1, "{name:?v tags:[v] at:?{x:v y:[v]}}", {0: [(0, 1, 1), (0, 1, 2)]}),
                (into_list, 1, "{name:[v] tags:[v] at:?{x:v y:[v]}}", {0: [(0, 1, 1), (0, 1, 2)]}),
                (into_maybe, 2, "{name:v tags:?[v] at:?{x:v y:[v]}}", {1: [(0, 1, None), (0, 2, 1), (1, 2, 2)]}),
                (into_list, 2, "{name:v tags:[[v]] at:?{x:v y:[v]}}", {1: [(0, 1, None), (0, 2, 1), (2, 2, 2)]}),
                (into_maybe, 3, "{name:v tags:[?v] at:?{x:v y:[v]}}", {1: [(0, 0, None), (0, 2, 1), (1, 2, 2)]}),
                (into_list, 3, "{name:v tags:[[v]] at:?{x:v y:[v]}}", {1: [(0, 0, None), (0, 2, 1), (1, 2, 2)]}),
                (into_list, 5, "{name:v tags:[v] at:?[{x:v y:[v]}]}", {2: [(0, 0, None), (0, 2, 5)],
                                                                      3: [(0, 0, None), (0, 3, 7)]})]:
            found = self.pair_of(function, schema=Schema(EXAMPLE), columns=COLUMNS, node=node)
            self.assertEqual(found[0].text, text)
            self.assertEqual(found[1], [wanted.get(leaf, COLUMNS[leaf]) for leaf in range(4)])

    def test_each_node_of_many_schemas(self):
        met = 0
        for rng, tree, schema, table in drawn(167, 120):
            for node in range(len(nodes_of(tree))):
                for function, sign in [(into_maybe, "?"), (into_list, "[")]:
                    new_tree = tree_with(tree, node, lambda part: (sign, part))
                    wanted = with_each_part(tree, table, node, lambda part: (part,) if sign == "?" else [part])
                    if is_schema(text_of(new_tree)):
                        self.assert_evolved(tree, table, new_tree, wanted, function, node=node)
                        met += 1
                    else:
                        self.assert_fault(("TooLarge",), function, schema, columns_in(tree, table), node)
        self.assertGreater(met, 500)

    def test_out_of_behind_into(self):
        for rng, tree, schema, table in drawn(169, 120):
            columns = columns_in(tree, table)
            for node in range(len(nodes_of(tree))):
                for function in [into_maybe, into_list]:
                    if fault_of(function, schema, columns, node) is None:
                        wider, more = function(schema, columns, node)
                        self.assertEqual(out_of(wider, more, node), (schema, columns))

    def test_new_schemas_at_each_limit_and_beyond(self):
        for function in [into_maybe, into_list]:
            for text, node, wanted in [
                    ("?" * 7 + "v", 7, None), ("?" * 8 + "v", 8, "TooLarge"), ("[" * 8 + "v" + "]" * 8, 0, "TooLarge"),
                    ("{a:" + "?" * 8 + "v b:v}", 10, None), ("{a:" + "?" * 8 + "v b:v}", 0, "TooLarge"),
                    (nested_text("{" * 19), 19, None), (nested_text("{" * 20), 20, "TooLarge"),
                    (nested_text("{" * 20), 0, "TooLarge"),
                    ("{a:" + nested_text("{" * 18) + " b:" + nested_text("{" * 17) + " c:v}", 0, None),
                    ("{a:" + nested_text("{" * 18) + " b:" + nested_text("{" * 18) + " c:v}", 0, "TooLarge")]:
                schema = Schema(text)
                columns = [[] for _ in range(len(schema))]
                self.assert_fault(wanted and (wanted,), function, schema, columns, node)

    def test_four_hundred_characters(self):
        for many in range(390, 401):
            schema, columns = Schema(text_of_length(many)), [[] for _ in range(11)]
            for node in [0, 1, 3, len(nodes_of(tree_of(schema.text))) - 1]:
                self.assert_fault(None if many <= 399 else ("TooLarge",), into_maybe, schema, columns, node)
                self.assert_fault(None if many <= 398 else ("TooLarge",), into_list, schema, columns, node)

    def test_errors(self):
        schema = Schema(EXAMPLE)
        for function in [into_maybe, into_list]:
            for node in [-2, -1, 9, 10, 10 ** 59, 1 - 10 ** 60]:
                self.assert_fault(("InvalidNode",), function, schema, COLUMNS, node)
            for thing in OTHER_OBJECTS + [[], COLUMNS[:3], tuple(COLUMNS), schema]:
                self.assert_fault(("InvalidColumns", -1, -1), function, schema, thing, 99)
            deep = Schema("?" * 8 + "v")
            self.assert_fault(("InvalidNode",), function, deep, [[]], 9)
            self.assert_fault(("InvalidColumns", 0, 0), function, deep, [[None]], 0)
            self.assert_fault(("TooLarge",), function, deep, [[]], 0)


class Out(Evolved):

    def test_many_schemas(self):
        told = []
        for rng, tree, schema, table in drawn(171, 250, most_documents=3):
            for node in nodes_with(tree, "?["):
                found = not_single_in(tree, node, table)
                single = all(len(part) == 1 for part in parts_at(tree, node, table))
                self.assertEqual(found is None, single)
                told.append((found is None, nodes_of(tree)[node][0], len(way_above(tree, node)) > 0))
                if found is None:
                    new_tree = tree_with(tree, node, lambda part: part[1])
                    wanted = with_each_part(tree, table, node, lambda part: part[0])
                    self.assert_evolved(tree, table, new_tree, wanted, out_of, node=node)
                else:
                    self.assert_fault(("NotSingle",) + found, out_of, schema, columns_in(tree, table), node)
        self.assertEqual(len(set(told)), 8)

    def test_not_single_by_hand(self):
        lists = "{n:v a:[{b:?v c:[[v]]}]}"
        one, two = {"b": (1,), "c": [[2]]}, {"b": (), "c": [[2, 3], [4]]}
        for text, table, node, wanted in [
                (EXAMPLE, [FIRST, SECOND], 4, (2, 0)), (EXAMPLE, [SECOND, FIRST], 4, (2, 1)),
                (EXAMPLE, [FIRST, SECOND], 2, (1, 0)), (EXAMPLE, [SECOND], 2, (1, 1)), (EXAMPLE, [SECOND, FIRST], 2, (1, 1)),
                (EXAMPLE, [FIRST, SECOND], 7, None), (EXAMPLE, [SECOND], 4, None),
                (lists, [{"n": 1, "a": [one]}], 2, None), (lists, [{"n": 1, "a": [one, one]}], 2, (1, 1)),
                (lists, [{"n": 1, "a": [one]}, {"n": 1, "a": []}], 2, (1, 1)),
                (lists, [{"n": 1, "a": [one, two]}], 4, (1, 1)), (lists, [{"n": 1, "a": [one, two]}], 6, (2, 3)),
                (lists, [{"n": 1, "a": [one, two]}], 7, (2, 2)), (lists, [{"n": 1, "a": []}], 7, None),
                (lists, [{"n": 1, "a": [dict(one, c=[])]}], 6, (2, 0)), (lists, [{"n": 1, "a": [dict(one, c=[])]}], 7, None),
                (lists, [{"n": 1, "a": [dict(one, c=[[]])]}], 7, (2, 0)),
                (lists, [{"n": 1, "a": [one, dict(one, c=[[], [5]])]}], 7, (2, 1)),
                (lists, [{"n": 1, "a": [one, dict(one, c=[[], [5]])]}], 6, (2, 2))]:
            schema, columns = Schema(text), columns_in(tree_of(text), table)
            self.assert_fault(wanted and ("NotSingle",) + wanted, out_of, schema, columns, node)

    def test_without_documents(self):
        for text in [EXAMPLE, DEEP]:
            tree, schema = tree_of(text), Schema(text)
            columns = [[] for _ in range(len(schema))]
            for node in nodes_with(tree, "?["):
                found = out_of(schema, columns, node)
                self.assertEqual(found, (Schema(text_of(tree_with(tree, node, lambda part: part[1]))), columns))

    def test_a_single_one_within_what_is_no_single_one(self):
        # The list below is a single one wherever it is reached.
        schema, columns = Schema("[[v]]"), [[(0, 2, 1), (1, 2, 2), (0, 0, None)]]
        self.assertEqual(out_of(schema, columns, 1), (Schema("[v]"), [[(0, 1, 1), (1, 1, 2), (0, 0, None)]]))
        self.assert_fault(("NotSingle", 0, 1), out_of, schema, columns, 0)
        columns = [[(0, 2, 1), (2, 2, 2), (0, 1, None)]]
        self.assertEqual(out_of(schema, columns, 0), (Schema("[v]"), [[(0, 1, 1), (1, 1, 2), (0, 0, None)]]))
        self.assert_fault(("NotSingle", 0, 1), out_of, schema, columns, 1)

    def test_errors(self):
        schema = Schema(EXAMPLE)
        for node in [-2, -1, 0, 1, 3, 5, 6, 8, 9, 10 ** 59, 1 - 10 ** 60]:
            self.assert_fault(("InvalidNode",), out_of, schema, COLUMNS, node)
        for thing in OTHER_OBJECTS + [[], COLUMNS[:3], tuple(COLUMNS), schema]:
            self.assert_fault(("InvalidColumns", -1, -1), out_of, schema, thing, 99)
            self.assert_fault(("InvalidColumns", -1, -1), out_of, schema, thing, 2)


class AllOfThem(Calls):

    def test_columns_that_do_not_fit(self):
        rng, told = random.Random(173), []
        for tree in random_trees(60, seed=174):
            columns = mixed_columns(rng, tree)
            wanted = misfit_in(tree, columns)
            told.append(wanted)
            for function, *rest, name in [(with_field, 99, None, "x", "InvalidNode"), (cut_columns, None, "InvalidLeaf"),
                                          (into_maybe, 99, "InvalidNode"), (into_list, -1, "InvalidNode"),
                                          (out_of, 99, "InvalidNode")]:
                fault = ("NotFitting",) + wanted if wanted else (name,)
                self.assertEqual(fault_of(function, Schema(text_of(tree)), columns, *rest), fault)
        self.assertTrue(any(told))

    def test_columns_that_are_none(self):
        schema = Schema(EXAMPLE)
        for function, *rest in [(with_field, 99, None, "x"), (cut_columns, None), (into_maybe, 99), (into_list, -1),
                                (out_of, 99)]:
            for leaf in range(4):
                wrong = [[], [], [], []]
                wrong[leaf] = COLUMNS[leaf] + [None]
                place = len(COLUMNS[leaf])
                self.assert_fault(("InvalidColumns", leaf, place), function, schema, wrong, *rest)

    def test_changes_one_behind_another(self):
        for rng, tree, schema, table in drawn(175, 60):
            columns = columns_in(tree, table)
            for _ in range(6):
                node = rng.randrange(len(nodes_of(tree)))
                sign = rng.choice("?[")
                new_tree = tree_with(tree, node, lambda part: (sign, part))
                if is_schema(text_of(new_tree)):
                    table = with_each_part(tree, table, node, lambda part: (part,) if sign == "?" else [part])
                    schema, columns = (into_maybe if sign == "?" else into_list)(schema, columns, node)
                    tree = new_tree
                self.assertEqual((schema.text, columns), (text_of(tree), columns_in(tree, table)))
                leaves = sorted(rng.sample(range(len(schema)), max(1, len(schema) - 1)))
                schema, columns = cut_columns(schema, columns, leaves)
                tree = cut_tree(tree, leaves)
                table = [ordered(tree, cut_document(tree, part)) for part in table]
                self.assertEqual((schema.text, columns), (text_of(tree), columns_in(tree, table)))
                self.assertEqual(len(leaves_of(tree)), len(schema))
                self.assertIsNotNone(tree_at(tree, 0))

    def test_functions_stand_in_their_file(self):
        for named in [with_field, cut_columns, into_maybe, into_list, out_of]:
            self.assertEqual(named.__module__, "levelcolumns.evolve")

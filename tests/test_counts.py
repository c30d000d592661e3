"""Point 18: how many tables have columns of given lengths."""

import collections
import itertools

from levelcolumns.counts import count_tables
from levelcolumns.schemas import Schema
from tests.edited import drawn
from tests.samples import DEEP, EXAMPLE, OTHER_OBJECTS, TWELVE, columns_in, leaves_of, tree_of
from tests.test_questions import NO_LENGTHS
from tests.tools import Calls


def made_at(tree, most):
    """All parts at a tree, each as a text, and the lengths of what it adds to the columns."""
    many = len(leaves_of(tree))
    if tree[0] == "v":
        return [("0", (1,))]
    if tree[0] == "?":
        return [("()", (1,) * many)] + [(f"({text},)", lengths) for text, lengths in made_at(tree[1], most)]
    if tree[0] == "[":
        rows = rows_at(tree[1], most)
        return [("[]", (1,) * many)] + [(f"[{text}]", lengths) for text, lengths, length in rows if length]
    found = [("", ())]
    for name, below in tree[1]:
        found = [(text + f"{name}:{inner} ", lengths + more)
                 for text, lengths in found for inner, more in made_at(below, most)]
    return found


def rows_at(tree, most):
    """All rows of parts at a tree: the text, the lengths, and how many parts it has."""
    single = made_at(tree, most)
    rows = [("", (0,) * len(leaves_of(tree)), 0)]
    begin = 0
    while begin < len(rows):
        text, lengths, many = rows[begin]
        begin += 1
        for more, added in single:
            longer = tuple(one + other for one, other in zip(lengths, added))
            if max(longer) <= most:
                rows.append((text + more + ";", longer, many + 1))
    return rows


class CountTables(Calls):

    def test_by_hand(self):
        for text, documents, lengths, wanted in [
                ("v", 0, [0], 1), ("v", 1, [1], 1), ("v", 3, [3], 1), ("v", 3, [2], 0), ("v", 2, [3], 0),
                ("?v", 3, [3], 8), ("?v", 0, [0], 1), ("?v", 1, [1], 2), ("?v", 1, [2], 0), ("??v", 2, [2], 9),
                # One list: empty, or of one element; of two, of three.
                ("[v]", 1, [1], 2), ("[v]", 1, [2], 1), ("[v]", 1, [3], 1), ("[v]", 2, [2], 4), ("[v]", 2, [3], 4),
                ("[v]", 2, [1], 0), ("[v]", 0, [0], 1), ("[v]", 0, [1], 0),
                # [], [[]], [[0]]; [[], []], [[0], []], [[], [0]], [[0], [0]], [[0, 0]].
                ("[[v]]", 1, [1], 3), ("[[v]]", 1, [2], 5), ("[?v]", 1, [1], 3), ("[?v]", 1, [2], 4), ("?[v]", 1, [1], 3),
                ("?[v]", 1, [2], 1), ("{a:v b:v}", 2, [2, 2], 1), ("{a:v b:v}", 2, [2, 3], 0),
                ("{a:?v b:[v]}", 1, [1, 1], 4), ("{a:?v b:[v]}", 1, [1, 2], 2), ("[{a:v b:v}]", 1, [2, 2], 1),
                ("[{a:v b:v}]", 1, [2, 1], 0), ("[{a:v b:v}]", 1, [1, 1], 2), ("[{a:v b:?v}]", 1, [2, 2], 4),
                ("[{a:v b:[v]}]", 1, [2, 3], 4), ("?{a:v b:?v}", 1, [1, 1], 3)]:
            found = self.result_of(count_tables, schema=Schema(text), documents=documents, lengths=lengths)
            self.assertEqual(found, wanted, (text, documents, lengths))

    def test_all_tables_of_small_lengths(self):
        for text, most in [
                ("v", 4), ("?v", 4), ("[v]", 5), ("??v", 4), ("[?v]", 4), ("?[v]", 5), ("[[v]]", 4), ("[?[v]]", 3),
                ("{a:v b:?v}", 3), ("{a:[v] b:[v]}", 3), ("[{a:v b:v}]", 4), ("[{a:?v b:[v]}]", 3), ("?{a:?v b:[v]}", 3),
                ("{a:[{b:v c:?v}] d:v}", 3), ("[{a:[v] b:?[v]}]", 3), ("[[{a:v b:?v}]]", 3), ("[?{a:v b:[v]}]", 3),
                ("{a:?[v] b:?{c:v d:[v]}}", 3), ("[[[v]]]", 4), (EXAMPLE, 2), ("{a:[{b:v c:[v]}] d:?v}", 3)]:
            schema, tree = Schema(text), tree_of(text)
            rows = rows_at(tree, most)
            self.assertEqual(len(rows), len({row[0] for row in rows}))
            counted = collections.Counter((many, lengths) for _, lengths, many in rows)
            self.assertGreater(len(counted), most)
            for documents in range(most + 1):
                for lengths in itertools.product(range(most + 1), repeat=len(schema)):
                    wanted = counted[(documents, lengths)]
                    self.assertEqual(count_tables(schema, documents, list(lengths)), wanted, (text, documents, lengths))

    def test_lengths_of_tables_do_occur(self):
        for rng, tree, schema, table in drawn(191, 150, 12, 4):
            lengths = [len(column) for column in columns_in(tree, table)]
            if max(lengths) <= 24:
                self.assertGreater(count_tables(schema, len(table), lengths), 0)
                if table:
                    self.assertEqual(count_tables(schema, len(table), [len(table) - 1] + lengths[1:]), 0)
                    self.assertEqual(count_tables(schema, max(lengths) + 1, lengths), 0)

    def test_no_documents(self):
        for text in ["v", "[v]", EXAMPLE, DEEP, TWELVE]:
            schema = Schema(text)
            self.assertEqual(count_tables(schema, 0, [0] * len(schema)), 1)
            for leaf in range(len(schema)):
                lengths = [0] * len(schema)
                lengths[leaf] = 1
                self.assertEqual(count_tables(schema, 0, lengths), 0)
            self.assertEqual(count_tables(schema, 1, [0] * len(schema)), 0)

    def test_great_lengths(self):
        self.assertEqual(count_tables(Schema("v"), 24, [24]), 1)
        self.assertEqual(count_tables(Schema("?v"), 24, [24]), 2 ** 24)
        self.assertEqual(count_tables(Schema("[v]"), 24, [24]), 2 ** 24)
        self.assertEqual(count_tables(Schema("[v]"), 1, [24]), 1)
        self.assertEqual(count_tables(Schema("?" * 8 + "v"), 24, [24]), 9 ** 24)
        self.assertEqual(count_tables(Schema("{a:?v b:?v c:?v}"), 24, [24] * 3), 2 ** 72)
        # Two lists of 24 entries in all: those of one entry are empty or not.
        self.assertEqual(count_tables(Schema("[v]"), 2, [24]), 2 * 2 + 21)
        # One document of 24 entries: a list of lists, of which those of one entry are empty or not.
        self.assertEqual(count_tables(Schema("[[v]]"), 1, [24]), pieces_with_marks(24))

    def test_deep_and_wide_schemas(self):
        # Each way to count must end in time, whatever the depth and the number of leaves.
        deep = Schema("[" * 8 + "v" + "]" * 8)
        self.assertGreater(count_tables(deep, 1, [24]), 10 ** 15)
        wide = Schema("[[{" + " ".join(f"{letter}:[?v]" for letter in "abcdefghijkl") + "}]]")
        self.assertGreater(count_tables(wide, 3, [24] * 12), 10 ** 30)
        self.assertEqual(count_tables(wide, 3, [24] * 11 + [2]), 0)

    def test_numbers(self):
        schema = Schema(EXAMPLE)
        for documents in [-1, -24, 1 - 10 ** 60, True, False]:
            for lengths in [[1] * 4, [25] * 4, None, [-1] * 4]:
                self.assert_fault(("InvalidNumber",), count_tables, schema, documents, lengths)
        for lengths in NO_LENGTHS + [schema, [schema] * 4]:
            for documents in [0, 1, 24, 25, 10 ** 59]:
                self.assert_fault(("InvalidLengths",), count_tables, schema, documents, lengths)
        for documents in [25, 26, 10 ** 59]:
            for lengths in [[1] * 4, [0] * 4, [25] * 4, [24] * 4]:
                self.assert_fault(("TooLarge",), count_tables, schema, documents, lengths)
        for leaf, length in itertools.product(range(4), [25, 26, 10 ** 59]):
            for documents in [0, 1, 24, 25]:
                lengths = [1] * 4
                lengths[leaf] = length
                self.assert_fault(("TooLarge",), count_tables, schema, documents, lengths)
        self.assert_fault(None, count_tables, schema, 24, [24] * 4)
        self.assert_fault(None, count_tables, schema, 0, [24] * 4)
        self.assert_fault(None, count_tables, schema, 24, [0] * 4)
        for thing in OTHER_OBJECTS:
            self.assert_fault(("InvalidLengths",), count_tables, Schema("v"), 1, thing)

    def test_functions_stand_in_their_file(self):
        self.assertEqual(count_tables.__module__, "levelcolumns.counts")


def pieces_with_marks(many):
    """The lists of lists with so many entries: pieces with this sum, of which those of 1 are of two kinds."""
    ways = [1]
    for total in range(1, many + 1):
        ways.append(sum(ways[total - piece] * (2 if piece == 1 else 1) for piece in range(1, total + 1)))
    return ways[many]

"""Point 17: the machine that reads chosen leaves."""

import itertools
import random

from levelcolumns.machines import entries_of, next_leaf
from levelcolumns.schemas import Schema
from tests.edited import drawn
from tests.samples import (DEEP, EXAMPLE, OTHER_OBJECTS, TWELVE, columns_in, leaves_of, meeting_in, mixed_columns,
                           nodes_of, random_trees, text_of, tree_of, way_in)
from tests.test_columns import COLUMNS, FIRST, SECOND
from tests.test_fitting import misfit_in
from tests.test_questions import NO_LEAVES, all_lists, leaves_under
from tests.tools import Calls, fault_of


def read_all(schema, leaves, columns):
    return list(entries_of(schema, leaves, columns))


def order_in(tree, table):
    """The leaves in the order in which the documents have their entries."""
    met = []

    def walk(part, node, below):
        if part[0] == "v":
            met.append(leaves_of(tree).index(node))
        elif part[0] == "{":
            at = node + 1
            for name, inner in part[1]:
                walk(inner, at, below[name])
                at += len(nodes_of(inner))
        elif not below:
            met.extend(leaves_under(tree, node))
        else:
            for inner in below:
                walk(part[1], node + 1, inner)

    for document in table:
        walk(tree, 0, document)
    return met


def entries_in(tree, table, leaves):
    """The pairs (leaf, entry) of the chosen leaves in the order of the documents."""
    rows = [iter(column) for column in columns_in(tree, table)]
    pairs = [(leaf, next(rows[leaf])) for leaf in order_in(tree, table)]
    return [(leaf, entry) for leaf, entry in pairs if leaf in leaves]


def lists_of(tree, leaf):
    """The lists of the way of a leaf, from the top down."""
    return [node for node in nodes_of(tree)[leaves_of(tree)[leaf]][1] if nodes_of(tree)[node][0] == "["]


def next_in(tree, leaves, leaf, level):
    later = [other for other in leaves if other > leaf]
    if later:
        meet = meeting_in(tree, leaf, min(later))
        if level <= way_in(tree, meet).count("l"):
            return min(later)
    if level == -1:
        return None
    if level == 0:
        return leaves[0]
    again = lists_of(tree, leaf)[level - 1]
    return min(set(leaves) & set(leaves_under(tree, again)))


class NextLeaf(Calls):

    def test_the_example_by_hand(self):
        schema = Schema(EXAMPLE)
        for leaves, leaf, level, wanted in [
                ([0, 1, 2, 3], 0, 0, 1), ([0, 1, 2, 3], 0, -1, 1), ([0, 1, 2, 3], 1, 1, 1), ([0, 1, 2, 3], 1, 0, 2),
                ([0, 1, 2, 3], 1, -1, 2), ([0, 1, 2, 3], 2, 0, 3), ([0, 1, 2, 3], 2, -1, 3), ([0, 1, 2, 3], 3, 1, 3),
                ([0, 1, 2, 3], 3, 0, 0), ([0, 1, 2, 3], 3, -1, None), ([1], 1, 0, 1), ([1], 1, 1, 1), ([1], 1, -1, None),
                ([1, 3], 3, 0, 1), ([1, 3], 3, 1, 3), ([1, 3], 1, 0, 3), ([0], 0, 0, 0), ([0], 0, -1, None)]:
            found = self.result_of(next_leaf, schema=schema, leaves=leaves, leaf=leaf, level=level)
            self.assertEqual(found, wanted, (leaves, leaf, level))

    def test_lists_in_lists_by_hand(self):
        schema = Schema("[{a:v b:[{c:v d:[v]}] e:v}]")
        every = [0, 1, 2, 3]
        for leaves, leaf, level, wanted in [
                (every, 0, 0, 1), (every, 0, 1, 1), (every, 1, 0, 2), (every, 1, 1, 2), (every, 1, 2, 2),
                (every, 2, 3, 2), (every, 2, 2, 1), (every, 2, 1, 3), (every, 2, 0, 3), (every, 2, -1, 3),
                (every, 3, 1, 0), (every, 3, 0, 0), (every, 3, -1, None), ([1, 3], 1, 2, 1), ([1, 3], 1, 1, 3),
                ([2, 3], 2, 2, 2), ([0, 2], 2, 1, 0), ([0, 2], 2, 2, 2), ([2], 2, 0, 2), ([2], 2, 3, 2)]:
            self.assertEqual(next_leaf(schema, leaves, leaf, level), wanted, (leaves, leaf, level))

    def test_each_leaf_and_level_of_many_schemas(self):
        rng = random.Random(181)
        for tree in random_trees(150, seed=182):
            schema = Schema(text_of(tree))
            leaves = sorted(rng.sample(range(len(schema)), rng.randint(1, len(schema))))
            for leaf in leaves:
                for level in range(-1, len(lists_of(tree, leaf)) + 1):
                    found = self.result_of(next_leaf, schema=schema, leaves=leaves, leaf=leaf, level=level)
                    self.assertEqual(found, next_in(tree, leaves, leaf, level))

    def test_leaves_that_are_none(self):
        schema = Schema(EXAMPLE)
        for leaves in NO_LEAVES + [[], schema, [schema]]:
            for leaf, level in [(0, 0), (9, 9)]:
                self.assert_fault(("InvalidLeaf",), next_leaf, schema, leaves, leaf, level)

    def test_a_leaf_that_is_not_chosen(self):
        schema = Schema(EXAMPLE)
        for leaves in all_lists(4)[1:]:
            for leaf in [-1, 0, 1, 2, 3, 4, 10 ** 59, 1 - 10 ** 60]:
                if leaf not in leaves:
                    for level in [-1, 0, 9]:
                        self.assert_fault(("InvalidLeaf",), next_leaf, schema, leaves, leaf, level)
        for leaf in [True, False]:
            self.assert_fault(("InvalidLeaf",), next_leaf, schema, [0, 1], leaf, 0)

    def test_levels_that_are_none(self):
        for tree in random_trees(40, seed=183):
            schema = Schema(text_of(tree))
            leaves = list(range(len(schema)))
            for leaf in leaves:
                most = len(lists_of(tree, leaf))
                for level in [-10 ** 59, -2, most + 1, most + 2, 10 ** 59, True, False]:
                    self.assert_fault(("InvalidNumber",), next_leaf, schema, leaves, leaf, level)


class EntriesOf(Calls):

    def test_the_example_by_hand(self):
        schema = Schema(EXAMPLE)
        self.assertEqual(read_all(schema, [0, 1, 2, 3], COLUMNS), [
            (0, (0, 0, 1)), (1, (0, 0, None)), (2, (0, 0, None)), (3, (0, 0, None)),
            (0, (0, 0, 2)), (1, (0, 1, 1)), (1, (1, 1, 2)), (2, (0, 1, 5)), (3, (0, 2, 7))])
        self.assertEqual(read_all(schema, [1, 3], COLUMNS), [
            (1, (0, 0, None)), (3, (0, 0, None)), (1, (0, 1, 1)), (1, (1, 1, 2)), (3, (0, 2, 7))])
        self.assertEqual(read_all(schema, [1], COLUMNS), [(1, entry) for entry in COLUMNS[1]])

    def test_records_in_lists_by_hand(self):
        schema = Schema("[{a:v b:[v] c:?v}]")
        columns = [[(0, 1, 1), (1, 1, 2), (0, 0, None)], [(0, 2, 5), (2, 2, 6), (1, 1, None), (0, 0, None)],
                   [(0, 1, None), (1, 2, 7), (0, 0, None)]]
        self.assertEqual(read_all(schema, [0, 1, 2], columns), [
            (0, (0, 1, 1)), (1, (0, 2, 5)), (1, (2, 2, 6)), (2, (0, 1, None)),
            (0, (1, 1, 2)), (1, (1, 1, None)), (2, (1, 2, 7)),
            (0, (0, 0, None)), (1, (0, 0, None)), (2, (0, 0, None))])

    def test_the_order_of_the_documents(self):
        for rng, tree, schema, table in drawn(185, 200, 12):
            columns = columns_in(tree, table)
            for leaves in [list(range(len(schema))), sorted(rng.sample(range(len(schema)), rng.randint(1, len(schema))))]:
                found = self.result_of(read_all, schema=schema, leaves=leaves, columns=columns)
                self.assertEqual(found, entries_in(tree, table, leaves))

    def test_it_goes_from_leaf_to_leaf_as_next_leaf_tells(self):
        for rng, tree, schema, table in drawn(187, 80, 12):
            columns = columns_in(tree, table)
            leaves = sorted(rng.sample(range(len(schema)), rng.randint(1, len(schema))))
            left = {leaf: list(columns[leaf]) for leaf in leaves}
            leaf = leaves[0] if table else None
            for met, entry in entries_of(schema, leaves, columns):
                self.assertEqual(met, leaf)
                self.assertEqual(left[leaf].pop(0), entry)
                leaf = next_leaf(schema, leaves, leaf, left[leaf][0][0] if left[leaf] else -1)
            self.assertIsNone(leaf)
            self.assertEqual(list(left.values()), [[] for _ in leaves])

    def test_without_documents(self):
        for text in [EXAMPLE, DEEP, TWELVE, "v", "[v]"]:
            schema = Schema(text)
            columns = [[] for _ in range(len(schema))]
            for leaves in [[0], [len(schema) - 1], list(range(len(schema)))]:
                self.assertEqual(read_all(schema, leaves, columns), [])

    def test_kinds_of_values(self):
        for pair in entries_of(Schema(EXAMPLE), [0, 1, 2, 3], COLUMNS):
            self.assertIs(type(pair), tuple)
            self.assertIs(type(pair[0]), int)
            self.assertIs(type(pair[1]), tuple)

    def test_it_is_a_generator(self):
        steps = entries_of(Schema(EXAMPLE), [0], COLUMNS)
        self.assertIs(iter(steps), steps)
        self.assertEqual(next(steps), (0, (0, 0, 1)))
        self.assertEqual(next(steps), (0, (0, 0, 2)))
        with self.assertRaises(StopIteration):
            next(steps)
        with self.assertRaises(StopIteration):
            next(steps)

    def test_two_at_once(self):
        schema = Schema(EXAMPLE)
        wanted = read_all(schema, [0, 1, 2, 3], COLUMNS)
        first, second = entries_of(schema, [0, 1, 2, 3], COLUMNS), entries_of(schema, [0, 1, 2, 3], COLUMNS)
        self.assertEqual([pair for both in zip(first, second) for pair in both],
                         [pair for one in wanted for pair in [one, one]])
        first, other = entries_of(schema, [0, 1, 2, 3], COLUMNS), entries_of(schema, [1], COLUMNS)
        begun = list(itertools.islice(first, 4))
        self.assertEqual(list(other), [(1, entry) for entry in COLUMNS[1]])
        self.assertEqual(begun + list(first), wanted)

    def test_one_that_is_stopped_early(self):
        schema = Schema(EXAMPLE)
        columns = [list(column) for column in COLUMNS]
        steps = entries_of(schema, [0, 1, 2, 3], columns)
        self.assertEqual(next(steps), (0, (0, 0, 1)))
        steps.close()
        self.assertEqual(columns, COLUMNS)
        self.assertEqual(len(read_all(schema, [0, 1, 2, 3], columns)), 9)

    def test_lists_that_are_changed_between_two_steps(self):
        schema = Schema(EXAMPLE)
        columns, leaves = [list(column) for column in COLUMNS], [0, 1, 2, 3]
        wanted = read_all(schema, leaves, columns)
        steps = entries_of(schema, leaves, columns)
        begun = [next(steps)]
        for column in columns:
            column.clear()
        columns.clear()
        leaves.clear()
        self.assertEqual(begun + list(steps), wanted)

    def test_three_hundred_documents(self):
        table = [dict(SECOND, name=number) for number in range(300)] + [FIRST]
        columns = columns_in(tree_of(EXAMPLE), table)
        self.assertEqual(read_all(Schema(EXAMPLE), [0, 1, 3], columns), entries_in(tree_of(EXAMPLE), table, [0, 1, 3]))

    def test_errors(self):
        schema = Schema(EXAMPLE)
        for leaves in NO_LEAVES + [[], schema, [schema]]:
            for columns in [COLUMNS, None, []]:
                self.assert_fault(("InvalidLeaf",), read_all, schema, leaves, columns)
        for columns in OTHER_OBJECTS + [[], COLUMNS[:3], COLUMNS + [[]], tuple(COLUMNS), schema]:
            self.assert_fault(("InvalidColumns", -1, -1), read_all, schema, [0], columns)
        # All columns are looked at, also those of leaves that are not chosen.
        self.assert_fault(("InvalidColumns", 1, 0), read_all, schema, [3], [COLUMNS[0], [None], None, COLUMNS[3]])
        self.assert_fault(("InvalidColumns", 3, -1), read_all, schema, [0], COLUMNS[:3] + [()])
        rng, told = random.Random(189), []
        for tree in random_trees(80, seed=190):
            columns = mixed_columns(rng, tree)
            wanted = misfit_in(tree, columns)
            told.append(wanted)
            fault = wanted and ("NotFitting",) + wanted
            self.assertEqual(fault_of(read_all, Schema(text_of(tree)), [0], columns), fault)
        self.assertTrue(any(told))

    def test_functions_stand_in_their_file(self):
        for named in [next_leaf, entries_of]:
            self.assertEqual(named.__module__, "levelcolumns.machines")

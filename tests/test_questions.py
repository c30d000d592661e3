"""Points 4 (R3) and 11: needed nodes, leaves that are enough, and tables that they do not tell apart."""

import itertools
import random

from levelcolumns.documents import table_fault
from levelcolumns.questions import fewest_leaves, is_enough, lightest_leaves, lowest, parted, shows_parted
from levelcolumns.schemas import Schema
from tests.samples import (EXAMPLE, OTHER_OBJECTS, TWELVE, column_in, leaves_of, nodes_of, prefix_in, random_document,
                           random_trees, redrawn, text_of, tree_of)
from tests.test_columns import FIRST, SECOND
from tests.tools import Calls

NO_NEEDED = OTHER_OBJECTS + [(-1,), (1,), [0], [5], [-1, 0], [9], [-2], [-2, -1], [-1, -1], [1, 1], [2, 1], [1, -1],
                             [True], [False], [-1, True], [None], ["1"], [(1,)], [[1]], [1, 2, 2], [10 ** 59],
                             [1, 10 ** 59], [1 - 10 ** 60], {1: 1}]

NO_LEAVES = OTHER_OBJECTS + [(0,), [4], [-1], [0, 0], [1, 0], [True], [False], [0, True], [None], ["0"], [[0]],
                             [(0,)], [0, 4], [10 ** 59], [1 - 10 ** 60], {0: 0}]

NO_LENGTHS = OTHER_OBJECTS + [[], [1] * 3, [1] * 5, (1, 1, 1, 1), [1, 1, 1, -1], [-1, 1, 1, 1], [1, True, 1, 1],
                              [1, 1, False, 1], [None] * 4, ["1"] * 4, [1, 1, 1, [1]], [1 - 10 ** 60, 1, 1, 1]]


def needable(tree):
    """The open nodes and the nodes of leaves."""
    return [node for node, (sign, _) in enumerate(nodes_of(tree)) if sign != "{"]


def leaves_under(tree, node):
    """The leaves at or below a node or the table."""
    found = nodes_of(tree)
    return [leaf for leaf, place in enumerate(leaves_of(tree)) if node == -1 or node in found[place][1]]


def tells(tree, needed, leaves):
    return all(set(leaves) & set(leaves_under(tree, node)) for node in [-1] + needed)


def all_lists(many):
    """All ascending lists of leaves, the shortest first, then the least."""
    return [list(leaves) for length in range(many + 1) for leaves in itertools.combinations(range(many), length)]


def told_at(tree, node, table):
    """The values of a leaf, or the prefix of each column at an open node or the table."""
    columns = [column_in(tree, leaf, table) for leaf in leaves_under(tree, node)]
    if node in leaves_of(tree):
        return [value for _, _, value in columns[0] if value is not None]
    return [prefix_in(tree, column, node) for column in columns]


def show(tree, needed, leaves, table, other):
    """Whether two tables have the same columns of the leaves and differ at a needed node."""
    if any(column_in(tree, leaf, table) != column_in(tree, leaf, other) for leaf in leaves):
        return False
    return any(told_at(tree, node, table) != told_at(tree, node, other) for node in [-1] + needed)


def samples(seed, many, most_leaves):
    rng = random.Random(seed)
    for tree in random_trees(many, seed=seed + 1, most_leaves=most_leaves):
        places = needable(tree)
        needed = sorted(rng.sample(places, rng.randint(0, min(4, len(places)))))
        yield rng, tree, Schema(text_of(tree)), rng.choice([[], [-1]]) + needed


class Lowest(Calls):

    def test_by_hand(self):
        schema = Schema(EXAMPLE)
        for needed, wanted in [
                ([], [-1]), ([-1], [-1]), ([1], [1]), ([-1, 1], [1]), ([2], [2]), ([2, 3], [3]), ([3], [3]),
                ([4], [4]), ([4, 6], [6]), ([4, 7], [7]), ([4, 7, 8], [8]), ([4, 6, 7], [6, 7]), ([1, 2], [1, 2]),
                ([-1, 1, 2, 3, 4, 6, 7, 8], [1, 3, 6, 8])]:
            self.assertEqual(self.result_of(lowest, schema=schema, needed=needed), wanted, needed)

    def test_open_nodes_directly_below_one_another(self):
        schema = Schema("??[[v]]")
        for needed in itertools.chain.from_iterable(itertools.combinations(range(5), many) for many in range(1, 6)):
            self.assertEqual(lowest(schema, list(needed)), [max(needed)])

    def test_many_schemas(self):
        for _, tree, schema, needed in samples(61, 300, 12):
            found, wanted = nodes_of(tree), sorted(set([-1] + needed))
            above = set([-1] if len(wanted) > 1 else []).union(*[found[node][1][:-1] for node in wanted if node >= 0])
            self.assertEqual(self.result_of(lowest, schema=schema, needed=needed),
                             [node for node in wanted if node not in above])


class Enough(Calls):

    def test_by_hand(self):
        schema = Schema(EXAMPLE)
        for needed, leaves, wanted in [
                ([], [], False), ([-1], [], False), ([], [0], True), ([], [3], True), ([1], [0], True),
                ([1], [1, 2, 3], False), ([2], [1], True), ([2], [0, 2, 3], False), ([4], [2], True), ([4], [3], True),
                ([4], [0, 1], False), ([7], [2], False), ([7], [3], True), ([4, 7], [2], False), ([4, 7], [3], True),
                ([4, 6, 7], [3], False), ([4, 6, 7], [2, 3], True), ([-1, 1, 2], [0], False),
                ([-1, 1, 2], [0, 1], True), ([1, 3, 6, 8], [0, 1, 2, 3], True)]:
            found = self.result_of(is_enough, schema=schema, needed=needed, leaves=leaves)
            self.assertIs(found, wanted, (needed, leaves))

    def test_all_lists_of_leaves(self):
        for _, tree, schema, needed in samples(63, 120, 5):
            for leaves in all_lists(len(schema)):
                self.assertIs(is_enough(schema, needed, leaves), tells(tree, needed, leaves))

    def test_fewest_against_all_lists(self):
        for _, tree, schema, needed in samples(65, 200, 7):
            wanted = [leaves for leaves in all_lists(len(schema)) if tells(tree, needed, leaves)][0]
            self.assertEqual(self.result_of(fewest_leaves, schema=schema, needed=needed), wanted)

    def test_lightest_against_all_lists(self):
        for rng, tree, schema, needed in samples(67, 300, 7):
            lengths = [rng.choice([0, 0, 1, 2, 3, 10 ** 59]) for _ in range(len(schema))]
            enough = [leaves for leaves in all_lists(len(schema)) if tells(tree, needed, leaves)]
            wanted = min(enough, key=lambda leaves: (sum(lengths[leaf] for leaf in leaves), len(leaves), leaves))
            found = self.result_of(lightest_leaves, schema=schema, needed=needed, lengths=lengths)
            self.assertEqual(found, wanted)

    def test_twelve_leaves(self):
        schema = Schema(TWELVE)
        self.assertEqual(fewest_leaves(schema, []), [0])
        self.assertEqual(fewest_leaves(schema, [3, 7, 12]), [2, 6, 11])
        self.assertEqual(lightest_leaves(schema, [-1], [5, 4, 3, 2, 2, 3, 4, 5, 6, 7, 8, 9]), [3])
        self.assertEqual(lightest_leaves(schema, [2, 11], [0] * 12), [1, 10])
        self.assertEqual(lightest_leaves(schema, [], [0] * 12), [0])

    def test_the_lightest_leaf_of_several(self):
        schema = Schema(EXAMPLE)
        for needed, lengths, wanted in [
                ([], [2, 3, 2, 2], [0]), ([], [3, 3, 2, 2], [2]), ([4], [0, 0, 5, 4], [3]), ([4], [0, 0, 5, 5], [2]),
                ([4, 7], [0, 0, 0, 9], [3]), ([1, 4], [9, 0, 8, 7], [0, 3]), ([2], [0, 10 ** 60 - 1, 0, 0], [1])]:
            self.assertEqual(lightest_leaves(schema, needed, lengths), wanted)


class Parted(Calls):

    def test_by_hand(self):
        schema = Schema(EXAMPLE)
        for needed, leaves in [([], [0]), ([4], [2]), ([7], [3]), ([1, 3, 6, 8], [0, 1, 2, 3])]:
            self.assertIsNone(self.result_of(parted, schema=schema, needed=needed, leaves=leaves))
        table, other = parted(schema, [2], [0, 2, 3])
        self.assertNotEqual([part["tags"] for part in table], [part["tags"] for part in other])
        for name in ["name", "at"]:
            self.assertEqual([part[name] for part in table], [part[name] for part in other])

    def test_all_lists_of_leaves(self):
        for _, tree, schema, needed in samples(71, 100, 4):
            for leaves in all_lists(len(schema)):
                found = self.result_of(parted, schema=schema, needed=needed, leaves=leaves)
                if tells(tree, needed, leaves):
                    self.assertIsNone(found)
                else:
                    self.assertTrue(type(found) is tuple and len(found) == 2)
                    for table in found:
                        self.assertIsNone(table_fault(schema, table))
                    self.assertTrue(show(tree, needed, leaves, *found))
                    self.assertIs(shows_parted(schema, needed, leaves, found), True)
                    self.assertIs(shows_parted(schema, needed, leaves, found[::-1]), True)

    def test_each_kind_of_needed_node(self):
        tree = tree_of("{a:[?{b:v c:[v]}] d:?[?v] e:v}")
        schema = Schema(text_of(tree))
        for node in [-1] + needable(tree):
            others = [leaf for leaf in range(len(schema)) if leaf not in leaves_under(tree, node)]
            found = parted(schema, [node], others)
            self.assertTrue(show(tree, [node], others, *found))
            # They differ at this node, not only at one that is needed besides.
            self.assertNotEqual(told_at(tree, node, found[0]), told_at(tree, node, found[1]))

    def test_twelve_leaves(self):
        schema, tree = Schema(TWELVE), tree_of(TWELVE)
        for leaf in range(12):
            others = [other for other in range(12) if other != leaf]
            found = self.result_of(parted, schema=schema, needed=[leaf + 1], leaves=others)
            self.assertTrue(show(tree, [leaf + 1], others, *found))


class ShowsParted(Calls):

    def test_pairs_of_many_tables(self):
        told = []
        for rng, tree, schema, needed in samples(73, 250, 4):
            table = [random_document(rng, tree) for _ in range(rng.randint(0, 2))]
            for _ in range(4):
                other = [redrawn(rng, tree, part) for part in table]
                other = other + other[:1] if rng.random() < 0.1 else other
                for leaves in all_lists(len(schema)):
                    wanted = show(tree, needed, leaves, table, other)
                    found = shows_parted(schema, needed, leaves, (table, other))
                    self.assertIs(found, wanted)
                    told.append(wanted)
        self.assertGreater(told.count(True), 300)
        self.assertGreater(told.count(False), 300)

    def test_what_must_differ(self):
        schema = Schema(EXAMPLE)
        table, more = [FIRST, SECOND], [FIRST, SECOND, FIRST]
        values = [FIRST, dict(SECOND, tags=[3, 4])]
        lengths = [FIRST, dict(SECOND, tags=[1, 2, 3])]
        moved = [dict(FIRST, tags=[1]), dict(SECOND, tags=[2])]
        for needed, leaves, other, wanted in [
                ([], [], table, False), ([], [], more, True), ([1], [], more, True), ([], [0], more, False),
                ([], [0], values, False), ([2], [0], values, False), ([3], [0], values, True),
                ([3], [0, 2, 3], values, True), ([3], [1], values, False), ([3], [0, 1], values, False),
                ([2], [0], lengths, True), ([3], [0], lengths, True), ([1], [0], lengths, False),
                ([4], [0], lengths, False), ([2], [1], lengths, False), ([2], [], moved, True),
                # The values of the leaf stay in order, only their lists are others.
                ([3], [], moved, False), ([3], [], table, False), ([1, 2, 3, 4, 6, 7, 8], [], table, False)]:
            for thing in [(table, other), (other, table)]:
                found = self.result_of(shows_parted, schema=schema, needed=needed, leaves=leaves, thing=thing)
                self.assertIs(found, wanted, (needed, leaves, other))

    def test_objects_that_are_no_two_tables(self):
        schema = Schema("?v")
        self.assertIs(shows_parted(schema, [], [], ([], [()])), True)
        wrong = OTHER_OBJECTS + [
            [], [[], [()]], ([],), ([], [()], []), ([], [()], [()]), ([], ((),)), ((), [()]), ([], [0]), ([], [None]),
            ([], None), (None, []), ([], [[]]), ([], [(True,)]), ([], [(0, 1)]), ([()], [(), None]), ([], ()),
            ([], schema), (schema, schema), schema, ({}, [()]), {"0": [], "1": [()]}, ([], "?v"), (0, 1)]
        for thing in wrong:
            found = self.result_of(shows_parted, schema=schema, needed=[], leaves=[], thing=thing)
            self.assertIs(found, False, repr(thing))

    def test_names_in_another_sequence(self):
        schema = Schema(EXAMPLE)
        turned = [{name: part[name] for name in ["at", "tags", "name"]} for part in [FIRST, SECOND]]
        self.assertIs(shows_parted(schema, [1, 3, 6, 8], [0], ([FIRST, SECOND], turned)), False)

    def test_three_hundred_documents(self):
        table = [dict(SECOND, name=number) for number in range(300)]
        other = table[:299] + [dict(SECOND, tags=[])]
        self.assertIs(shows_parted(Schema(EXAMPLE), [2], [2, 3], (table, other)), True)
        self.assertIs(shows_parted(Schema(EXAMPLE), [4], [2, 3], (table, other)), False)


class Errors(Calls):

    def test_needed_that_is_none(self):
        schema = Schema(EXAMPLE)
        for needed in NO_NEEDED + [schema, [schema]]:
            for function, rest in [(lowest, [()]), (fewest_leaves, [()]), (is_enough, [([0],), (None,)]),
                                   (lightest_leaves, [([1] * 4,), (None,)]), (parted, [([0],), (None,), ([],)]),
                                   (shows_parted, [([0], None), (None, ([], [FIRST]))])]:
                for others in rest:
                    self.assert_fault(("InvalidNeeded",), function, schema, needed, *others)

    def test_leaves_that_are_none(self):
        schema = Schema(EXAMPLE)
        for leaves in NO_LEAVES + [schema, [schema]]:
            for needed in [[], [-1, 2], [1, 3]]:
                self.assert_fault(("InvalidLeaf",), is_enough, schema, needed, leaves)
                self.assert_fault(("InvalidLeaf",), parted, schema, needed, leaves)
                for thing in [None, ([], [FIRST])]:
                    self.assert_fault(("InvalidLeaf",), shows_parted, schema, needed, leaves, thing)

    def test_lengths_that_are_none(self):
        schema = Schema(EXAMPLE)
        for lengths in NO_LENGTHS + [schema, [schema] * 4]:
            for needed in [[], [-1, 2], [1, 3, 6, 8]]:
                self.assert_fault(("InvalidLengths",), lightest_leaves, schema, needed, lengths)

    def test_needed_may_have_any_open_node_or_leaf(self):
        schema = Schema("{a:{b:v} c:?{d:[v]}}")
        for node in range(-1, 8):
            wanted = ("InvalidNeeded",) if node in [0, 1, 4, 7] else None
            self.assert_fault(wanted, lowest, schema, [node])

    def test_functions_stand_in_their_file(self):
        for named in [lowest, is_enough, fewest_leaves, lightest_leaves, parted, shows_parted]:
            self.assertEqual(named.__module__, "levelcolumns.questions")

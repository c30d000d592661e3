"""Point 6: leaves of two schemas that match."""

import itertools
import random
import unittest

from levelcolumns.schemas import Schema, leaf_nodes, matching
from tests.samples import (DEEP, EXAMPLE, TWELVE, leaves_of, open_above_both, random_trees, text_of, way_in)


def leaf_facts(tree):
    """The ways of the leaves, and for each two of them the open nodes above both."""
    places = leaves_of(tree)
    many = range(len(places))
    return ([way_in(tree, node) for node in places],
            [[open_above_both(tree, leaf, second) for second in many] for leaf in many])


def least_matching(tree, other):
    """The least matching, found by trying the leaves of the other tree in order."""
    ways, both = leaf_facts(tree)
    other_ways, other_both = leaf_facts(other)
    if len(ways) != len(other_ways):
        return None

    def longer(found):
        leaf = len(found)
        if leaf == len(ways):
            return found
        for second in range(len(ways)):
            if second in found or ways[leaf] != other_ways[second]:
                continue
            if any(both[leaf][at] != other_both[second][before] for at, before in enumerate(found)):
                continue
            whole = longer(found + [second])
            if whole:
                return whole
        return None

    return longer([])


def shuffled(rng, tree):
    """The same open nodes and leaves: fields in another sequence, other names, other records."""
    if rng.random() < 0.2:
        return ("{", [("q" + rng.choice("xyz"), shuffled(rng, tree))])
    if tree[0] == "v":
        return tree
    if tree[0] in "?[":
        return (tree[0], shuffled(rng, tree[1]))
    fields = [shuffled(rng, below) for _, below in tree[1]]
    rng.shuffle(fields)
    if len(fields) > 2 and rng.random() < 0.5:
        fields = [("{", [("a", fields[0]), ("b", fields[1])])] + fields[2:]
    if len(fields) == 1 and rng.random() < 0.5:
        return fields[0]
    return ("{", [("abcdefghijklmnop"[at], below) for at, below in enumerate(fields)])


def within_limits(tree):
    text = text_of(tree)
    return len(text) <= 400 and sum(text.count(sign) for sign in "?[{") + len(leaves_of(tree)) <= 40


class Matching(unittest.TestCase):

    def assert_matching(self, text, other, wanted):
        self.assertEqual(matching(Schema(text), Schema(other)), wanted, (text, other))

    def test_fields_in_another_sequence(self):
        self.assert_matching("{a:v b:[v] c:?v}", "{c:?v a:v b:[v]}", [1, 2, 0])
        self.assert_matching("{a:[{x:v y:?v}] b:v}", "{b:v a:[{y:?v x:v}]}", [2, 1, 0])
        self.assert_matching(EXAMPLE, "{at:?{y:[v] x:v} name:v tags:[v]}", [2, 3, 1, 0])

    def test_other_names(self):
        self.assert_matching("{a:v b:[v]}", "{q:v r:[v]}", [0, 1])
        self.assert_matching("{a:v b:v}", "{b:v a:v}", [0, 1])

    def test_records_put_in_or_taken_out(self):
        self.assert_matching("v", "{a:{b:v}}", [0])
        self.assert_matching("{a:{b:v}}", "v", [0])
        self.assert_matching("[?v]", "{a:[{b:?{c:v}}]}", [0])
        self.assert_matching("{a:v b:{c:[v] d:v}}", "{c:[v] a:v b:v}", [1, 0, 2])
        self.assert_matching("{a:{b:{c:v d:v} e:v}}", "{a:v b:{c:v} d:v}", [0, 1, 2])

    def test_open_nodes_otherwise(self):
        for text, other in [("v", "?v"), ("?v", "[v]"), ("?[v]", "[?v]"), ("v", "{a:v b:v}"), ("{a:v b:v}", "v"),
                            ("[{a:v b:v}]", "{a:[v] b:[v]}"), ("{a:[v] b:[v]}", "[{a:v b:v}]"),
                            ("??v", "?v"), ("{a:?v b:v}", "{a:?v b:?v}"),
                            ("{a:[{x:v y:v}] b:[v]}", "[{a:v b:v c:v}]"),
                            ("{a:[[{x:v y:v}]] b:[[v]]}", "[{a:[{x:v y:v}] b:[v]}]"),
                            ("{a:?{x:v y:[v]} b:?[v]}", "{a:?{x:[v] y:[v]} b:?v}"),
                            (TWELVE, TWELVE.replace("f:v", "f:?v")), (TWELVE, TWELVE.replace(" l:v", ""))]:
            self.assert_matching(text, other, None)
            self.assert_matching(other, text, None)

    def test_the_same_ways_and_pairs_met_otherwise(self):
        self.assert_matching("{a:[{x:v y:v}] b:[{x:v y:v}]}", "{a:[{x:v y:v z:v}] b:[v]}", None)
        self.assert_matching("[{a:[{x:v y:v}] b:[{x:v y:v}]}]", "[{a:[{x:v y:v z:v}] b:[v]}]", None)
        self.assert_matching("{a:[{p:[v] q:[v]}] b:[{p:[v] q:[v]}]}", "{a:[{p:[v] q:[v] r:[v]}] b:[[v]]}", None)

    def test_the_least_list(self):
        self.assert_matching("{a:v b:v c:v}", "{a:v b:v c:v}", [0, 1, 2])
        self.assert_matching("{a:?v b:v c:?v}", "{a:v b:?v c:?v}", [1, 0, 2])
        self.assert_matching("{a:[{x:v y:v}] b:[v]}", "{a:[v] b:[{x:v y:v}]}", [1, 2, 0])
        self.assert_matching("{a:[v] b:[{x:v y:?v}] c:[{x:v y:?v}]}", "{a:[{y:?v x:v}] b:[{x:v y:?v}] c:[v]}",
                             [4, 1, 0, 2, 3])

    def test_twelve_leaves_alike(self):
        self.assert_matching(TWELVE, TWELVE, list(range(12)))
        self.assert_matching(TWELVE, "{a:{a:v b:{a:v b:v}} " + TWELVE[13:], list(range(12)))
        lists = TWELVE.replace(":v", ":[v]")
        self.assert_matching(lists, lists, list(range(12)))
        self.assert_matching(lists, "[" + TWELVE + "]", None)

    def test_twelve_leaves_in_groups(self):
        groups = [3, 1, 2, 2, 1, 3]
        text = groups_text(groups)
        self.assert_matching(text, text, list(range(12)))
        self.assert_matching(text, groups_text([2, 1, 3, 1, 2, 3]), [3, 4, 5, 2, 0, 1, 7, 8, 6, 9, 10, 11])
        self.assert_matching(text, groups_text([2, 2, 2, 2, 2, 2]), None)
        self.assert_matching(groups_text([2, 2, 2, 2, 2, 2]), groups_text([1, 2, 2, 2, 2, 3]), None)
        self.assert_matching(text, groups_text([3, 2, 1, 3, 2, 1]), [0, 1, 2, 5, 3, 4, 9, 10, 11, 6, 7, 8])

    def test_twelve_leaves_deep_down(self):
        wide = "{a:?[{a:v b:?v}] b:?[{a:v b:?v}] c:?{a:[{a:v b:?v}] b:[{a:v b:?v}]} d:v e:[v] f:[?v] g:[?v]}"
        other = "{g:[?v] f:[{f:?v}] e:[v] c:?{a:[{b:?v a:v}] b:[{a:v b:?v}]} x:{b:?[{b:?v a:v}] a:?[{a:v b:?v}]} d:v}"
        self.assert_matching(wide, other, [8, 7, 9, 10, 4, 3, 5, 6, 11, 2, 0, 1])

    def test_by_name(self):
        self.assertEqual(matching(other=Schema("{b:[v] a:v}"), schema=Schema("{a:v b:[v]}")), [1, 0])

    def test_arguments_stay_as_they_are(self):
        schema, other = Schema(EXAMPLE), Schema(DEEP)
        matching(schema, other)
        self.assertEqual((schema.text, other.text), (EXAMPLE, DEEP))
        self.assertEqual(leaf_nodes(schema), [1, 3, 6, 8])


class ManyMatchings(unittest.TestCase):

    def test_against_all_permutations(self):
        trees = random_trees(60, seed=5, most_leaves=4)
        for tree, other in itertools.product(trees[:20], trees):
            ways, both = leaf_facts(tree)
            other_ways, other_both = leaf_facts(other)
            many = range(len(ways))
            found = [list(order) for order in itertools.permutations(range(len(other_ways)))
                     if len(order) == len(ways)
                     and all(ways[leaf] == other_ways[order[leaf]] for leaf in many)
                     and all(both[leaf][second] == other_both[order[leaf]][order[second]]
                             for leaf in many for second in many)]
            wanted = min(found) if found else None
            self.assertEqual(matching(Schema(text_of(tree)), Schema(text_of(other))), wanted)

    def test_shuffled_schemas(self):
        rng = random.Random(6)
        many = 0
        for tree in random_trees(300, seed=7):
            other = shuffled(rng, tree)
            if within_limits(other):
                many += 1
                wanted = least_matching(tree, other)
                self.assertIsNotNone(wanted)
                self.assertEqual(matching(Schema(text_of(tree)), Schema(text_of(other))), wanted)
        self.assertGreater(many, 200)

    def test_schemas_with_twelve_leaves(self):
        rng = random.Random(8)
        trees = [tree for tree in random_trees(500, seed=9) if len(leaves_of(tree)) == 12]
        self.assertGreater(len(trees), 10)
        for tree in trees:
            for other in [shuffled(rng, tree), rng.choice(trees)]:
                if within_limits(other):
                    wanted = least_matching(tree, other)
                    self.assertEqual(matching(Schema(text_of(tree)), Schema(text_of(other))), wanted)


def groups_text(groups):
    """A record of lists with so many values each."""
    fields = ["[{" + " ".join(f"{'abc'[at]}:v" for at in range(many)) + "}]" for many in groups]
    return "{" + " ".join(f"{'abcdef'[at]}:{field}" for at, field in enumerate(fields)) + "}"


if __name__ == "__main__":
    unittest.main()

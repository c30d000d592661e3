"""Points 4 (R4) and 10: leaves that misfit, that fit together, and that may be spoilt."""

import itertools
import random

from levelcolumns.fitting import first_misfit
from levelcolumns.misfits import (count_greatest, greatest_fit, misfit_groups, misfits, shows_groups, suspects)
from levelcolumns.schemas import Schema, cut
from tests.samples import (EXAMPLE, OTHER_OBJECTS, TWELVE, fit_in, mixed_columns, random_trees, text_of, tree_of)
from tests.test_columns import COLUMNS
from tests.tools import Calls

FUNCTIONS = [misfits, greatest_fit, count_greatest, suspects, misfit_groups]


def pairs_in(tree, columns):
    leaves = range(len(columns))
    return [pair for pair in itertools.combinations(leaves, 2) if not fit_in(tree, columns, *pair)]


def longest_fits(pairs, many):
    """All lists of leaves that fit together with the greatest length, the least first."""
    for length in range(many, 0, -1):
        fits = [list(leaves) for leaves in itertools.combinations(range(many), length)
                if not any(pair in pairs for pair in itertools.combinations(leaves, 2))]
        if fits:
            return sorted(fits)


def part_well(groups, pairs, many):
    """Whether groups part so many leaves so that every two of a group misfit."""
    if sorted(leaf for group in groups for leaf in group) != list(range(many)) or [] in groups:
        return False
    return all(tuple(sorted(two)) in pairs for group in groups for two in itertools.combinations(group, 2))


def samples(seed, many, most_leaves):
    rng = random.Random(seed)
    for tree in random_trees(many, seed=seed + 1, most_leaves=most_leaves):
        yield tree, mixed_columns(rng, tree, rng.randint(1, 3), rng.randint(2, 5))


def flat_columns(lengths):
    """Columns for the schema of twelve values: leaves fit just if their columns are equally long."""
    return [[(0, 0, number) for number in range(length)] for length in lengths]


class Misfits(Calls):

    def test_columns_that_fit(self):
        schema = Schema(EXAMPLE)
        for columns in [COLUMNS, [[], [], [], []]]:
            self.assertEqual(self.result_of(misfits, schema=schema, columns=columns), [])
            self.assertEqual(self.result_of(greatest_fit, schema=schema, columns=columns), [0, 1, 2, 3])
            self.assertEqual(self.result_of(count_greatest, schema=schema, columns=columns), 1)
            self.assertEqual(self.result_of(suspects, schema=schema, columns=columns), [])
            groups = self.result_of(misfit_groups, schema=schema, columns=columns)
            self.assertEqual(sorted(groups), [[0], [1], [2], [3]])

    def test_one_spoilt_column(self):
        schema = Schema(EXAMPLE)
        columns = [COLUMNS[0], COLUMNS[1][:1], COLUMNS[2], COLUMNS[3]]
        self.assertEqual(misfits(schema, columns), [(0, 1), (1, 2), (1, 3)])
        self.assertEqual(greatest_fit(schema, columns), [0, 2, 3])
        self.assertEqual(count_greatest(schema, columns), 1)
        self.assertEqual(suspects(schema, columns), [1])

    def test_two_spoilt_columns(self):
        # Leaves 2 and 3 do not agree where the maybe is there; both agree with the others.
        schema = Schema(EXAMPLE)
        columns = COLUMNS[:3] + [[(0, 1, None), (0, 2, 7)]]
        self.assertEqual(misfits(schema, columns), [(2, 3)])
        self.assertEqual(greatest_fit(schema, columns), [0, 1, 2])
        self.assertEqual(count_greatest(schema, columns), 2)
        self.assertEqual(suspects(schema, columns), [2, 3])
        columns = [[], [], COLUMNS[2], COLUMNS[3]]
        self.assertEqual(misfits(schema, columns), [(0, 2), (0, 3), (1, 2), (1, 3)])
        self.assertEqual(greatest_fit(schema, columns), [0, 1])
        self.assertEqual(count_greatest(schema, columns), 2)
        self.assertEqual(suspects(schema, columns), [])
        self.assertEqual(len(misfit_groups(schema, columns)), 2)

    def test_one_leaf(self):
        for text, column in [("v", [(0, 0, 1)]), ("[v]", []), ("?v", [(0, 0, None)])]:
            schema = Schema(text)
            self.assertEqual([function(schema, [column]) for function in FUNCTIONS], [[], [0], 1, [], [[0]]])

    def test_leaves_that_are_no_neighbours(self):
        schema = Schema("{a:v b:v c:v}")
        columns = flat_columns([1, 2, 1])
        self.assertEqual(misfits(schema, columns), [(0, 1), (1, 2)])
        self.assertEqual(suspects(schema, columns), [1])
        self.assertEqual(greatest_fit(schema, columns), [0, 2])

    def test_all_pairs_of_many_schemas(self):
        seen = 0
        for tree, columns in samples(41, 250, 12):
            schema, wanted = Schema(text_of(tree)), pairs_in(tree, columns)
            seen += len(wanted) > 0
            self.assertEqual(self.result_of(misfits, schema=schema, columns=columns), wanted)
            spoilt = [leaf for leaf in range(len(columns)) if wanted and all(leaf in pair for pair in wanted)]
            self.assertEqual(self.result_of(suspects, schema=schema, columns=columns), spoilt)
        self.assertGreater(seen, 100)

    def test_suspects_against_cut_schemas(self):
        for tree, columns in samples(43, 150, 5):
            schema, many = Schema(text_of(tree)), len(columns)
            spoilt = []
            for leaf in range(many):
                others = [second for second in range(many) if second != leaf]
                if not others or first_misfit(cut(schema, others), [columns[second] for second in others]) is None:
                    spoilt.append(leaf)
            if first_misfit(schema, columns) is None:
                spoilt = []
            self.assertEqual(suspects(schema, columns), spoilt)


class GreatestFit(Calls):

    def test_against_all_lists_of_leaves(self):
        lengths = {}
        for tree, columns in samples(45, 250, 7):
            schema, fits = Schema(text_of(tree)), longest_fits(pairs_in(tree, columns), len(columns))
            self.assertEqual(self.result_of(greatest_fit, schema=schema, columns=columns), fits[0])
            self.assertEqual(self.result_of(count_greatest, schema=schema, columns=columns), len(fits))
            lengths[len(fits) > 1] = True
        self.assertEqual(len(lengths), 2)

    def test_against_joined_columns(self):
        for tree, columns in samples(47, 80, 5):
            schema, best = Schema(text_of(tree)), []
            for length in range(1, len(columns) + 1):
                for leaves in itertools.combinations(range(len(columns)), length):
                    small = cut(schema, list(leaves))
                    if first_misfit(small, [columns[leaf] for leaf in leaves]) is None:
                        best = best if len(best) == length else list(leaves)
            self.assertEqual(greatest_fit(schema, columns), best)

    def test_twelve_leaves(self):
        schema = Schema(TWELVE)
        for lengths, best, many in [
                ([1] * 12, list(range(12)), 1),
                (list(range(12)), [0], 12),
                ([1, 2] * 6, [0, 2, 4, 6, 8, 10], 2),
                ([3, 1, 2] * 4, [0, 3, 6, 9], 3),
                ([0, 0, 1, 1, 1, 2, 2, 2, 3, 3, 4, 5], [2, 3, 4], 2),
                ([1] * 11 + [2], list(range(11)), 1),
                ([2] + [1] * 11, list(range(1, 12)), 1)]:
            columns = flat_columns(lengths)
            self.assertEqual(self.result_of(greatest_fit, schema=schema, columns=columns), best)
            self.assertEqual(count_greatest(schema, columns), many)
            self.assertEqual(len(misfit_groups(schema, columns)), len(best))

    def test_twelve_leaves_below_one_another(self):
        text = "{" + " ".join(f"{name}:[{{a:v b:?v c:[v]}}]" for name in "abcd") + "}"
        rng, schema, tree = random.Random(49), Schema(text), tree_of(text)
        for _ in range(40):
            columns = mixed_columns(rng, tree, 2, rng.randint(2, 5))
            fits = longest_fits(pairs_in(tree, columns), len(columns))
            self.assertEqual(greatest_fit(schema, columns), fits[0])
            self.assertEqual(count_greatest(schema, columns), len(fits))
            self.assertEqual(len(misfit_groups(schema, columns)), len(fits[0]))


class Groups(Calls):

    def test_as_many_groups_as_the_greatest_fit_has_leaves(self):
        kinds_of_groups = {}
        for tree, columns in samples(53, 400, 12):
            schema = Schema(text_of(tree))
            groups = self.result_of(misfit_groups, schema=schema, columns=columns)
            self.assertEqual(len(groups), len(greatest_fit(schema, columns)))
            self.assertTrue(part_well(groups, pairs_in(tree, columns), len(columns)))
            self.assertIs(self.result_of(shows_groups, schema=schema, columns=columns, thing=groups), True)
            for group in groups:
                kinds_of_groups[len(group)] = True
        self.assertGreater(len(kinds_of_groups), 2)

    def test_more_groups_also_show(self):
        schema, columns = Schema(EXAMPLE), [[], COLUMNS[1], COLUMNS[2][:1], COLUMNS[3] * 2]
        self.assertEqual(misfits(schema, columns), list(itertools.combinations(range(4), 2)))
        for groups in [[[0, 1, 2, 3]], [[0], [1], [2], [3]], [[3, 1], [0, 2]], [[2], [3, 0, 1]], [[3, 2, 1, 0]]]:
            self.assertIs(shows_groups(schema, columns, groups), True)

    def test_against_all_lists_of_groups(self):
        for tree, columns in samples(55, 60, 3):
            many = len(columns)
            schema, pairs = Schema(text_of(tree)), pairs_in(tree, columns)
            groups = [list(group) for length in range(3) for group in itertools.product(range(many), repeat=length)]
            for length in range(4):
                for parts in itertools.product(groups, repeat=length):
                    found = shows_groups(schema, columns, [list(group) for group in parts])
                    self.assertIs(found, part_well(list(parts), pairs, many) and length > 0)

    def test_objects_that_are_no_such_list(self):
        schema, columns = Schema("{a:v b:v}"), flat_columns([1, 2])
        for thing in [[[0, 1]], [[1, 0]], [[0], [1]], [[1], [0]]]:
            self.assertIs(self.result_of(shows_groups, schema=schema, columns=columns, thing=thing), True)
        wrong = OTHER_OBJECTS + [
            [], [[]], [[0]], [[1]], [[0, 1], []], [[], [0, 1]], [[0, 1], [0]], [[0, 1], [1]], [[0, 0], [1]],
            [[0, 1, 1]], [[0, 1, 2]], [[0], [1], [2]], [[0, -1]], [[0], [-1]], [0, 1], [(0, 1)], [(0,), (1,)],
            ([0, 1],), ([0], [1]), [[False, 1]], [[0, True]], [[0], [True]], [["0", "1"]], [[None]], [None], [[0], 1],
            [[[0], [1]]], [[0, [1]]], ["01"], [{0: 0}], [{"0": 0}], [[0, 1], None], [[0, 10 ** 59]], schema,
            [[0, schema]], [[schema]], [schema], [[0], [1, schema]]]
        for thing in wrong:
            found = self.result_of(shows_groups, schema=schema, columns=columns, thing=thing)
            self.assertIs(found, False, repr(thing))
        for thing in [[[0, 1]], [[1, 0]]]:
            self.assertIs(shows_groups(schema, flat_columns([2, 2]), thing), False)


class Errors(Calls):

    def test_objects_that_are_no_columns(self):
        schema = Schema(EXAMPLE)
        things = OTHER_OBJECTS + [[], COLUMNS[:3], COLUMNS + [[]], tuple(COLUMNS), schema]
        for function in FUNCTIONS:
            for thing in things:
                self.assert_fault(("InvalidColumns", -1, -1), function, schema, thing)
        for thing in things:
            for other in [None, [[0], [1], [2], [3]]]:
                self.assert_fault(("InvalidColumns", -1, -1), shows_groups, schema, thing, other)

    def test_the_first_wrong_column_decides(self):
        schema = Schema(EXAMPLE)
        for wrong, place in [(None, -1), ([True], 0), (COLUMNS[1] + [(0, 2, 0)], 3)]:
            columns = [[], wrong, None, COLUMNS[3]]
            for function in FUNCTIONS:
                self.assert_fault(("InvalidColumns", 1, place), function, schema, columns)
            self.assert_fault(("InvalidColumns", 1, place), shows_groups, schema, columns, None)

    def test_functions_stand_in_their_file(self):
        for named in FUNCTIONS + [shows_groups]:
            self.assertEqual(named.__module__, "levelcolumns.misfits")

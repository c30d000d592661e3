"""Points 3, 4 (R2) and 9: prefixes, columns that fit, and the table that they are joined to."""

import itertools
import random

from levelcolumns.columns import split
from levelcolumns.fitting import first_misfit, joined, prefix
from levelcolumns.schemas import Schema
from tests.samples import (DEEP, EXAMPLE, OTHER_OBJECTS, TWELVE, column_in, columns_in, leaves_of, meeting_in,
                           mixed_columns, nodes_of, ordered, prefix_in, random_document, random_trees, redrawn,
                           text_of, tree_of, way_in)
from tests.test_columns import COLUMNS, FIRST, SECOND
from tests.tools import Calls, fault_of, key_orders


def misfit_in(tree, columns):
    """What first_misfit must tell, from the prefixes with the places of their tuples."""
    for leaf in range(len(columns) - 1):
        node = meeting_in(tree, leaf, leaf + 1)
        lists = way_in(tree, node).count("l")
        places = [at for at, entry in enumerate(columns[leaf + 1]) if entry[0] <= lists] + [len(columns[leaf + 1])]
        wanted, found = prefix_in(tree, columns[leaf], node), prefix_in(tree, columns[leaf + 1], node)
        for place, one, other in itertools.zip_longest(places, wanted, found):
            if one != other:
                return leaf + 1, place
    return None


class Prefixes(Calls):

    def test_the_example_of_the_document(self):
        schema = Schema(EXAMPLE)
        for leaf, node, wanted in [
                (0, -1, [(0, 0), (0, 0)]), (0, 0, [(0, 0), (0, 0)]), (0, 1, [(0, 0), (0, 0)]),
                (1, -1, [(0, 0), (0, 0)]), (1, 0, [(0, 0), (0, 0)]), (1, 2, [(0, 0), (0, 1), (1, 1)]),
                (1, 3, [(0, 0), (0, 1), (1, 1)]), (2, 0, [(0, 0), (0, 0)]), (2, 4, [(0, 0), (0, 1)]),
                (2, 5, [(0, 0), (0, 1)]), (2, 6, [(0, 0), (0, 1)]), (3, -1, [(0, 0), (0, 0)]),
                (3, 5, [(0, 0), (0, 1)]), (3, 7, [(0, 0), (0, 2)]), (3, 8, [(0, 0), (0, 2)])]:
            found = self.result_of(prefix, schema=schema, leaf=leaf, column=COLUMNS[leaf], node=node)
            self.assertEqual(found, wanted, (leaf, node))

    def test_lists_in_lists_by_hand(self):
        column = [(0, 3, 1), (2, 3, 2), (1, 2, None), (1, 1, None), (0, 0, None), (0, 3, 3)]
        schema = Schema("[?[v]]")
        for node, wanted in [
                (-1, [(0, 0), (0, 0), (0, 0)]), (0, [(0, 1), (1, 1), (1, 1), (0, 0), (0, 1)]),
                (1, [(0, 2), (1, 2), (1, 1), (0, 0), (0, 2)]),
                (2, [(0, 3), (2, 3), (1, 2), (1, 1), (0, 0), (0, 3)]),
                (3, [(0, 3), (2, 3), (1, 2), (1, 1), (0, 0), (0, 3)])]:
            self.assertEqual(prefix(schema, 0, column, node), wanted)

    def test_all_nodes_of_many_schemas(self):
        rng = random.Random(31)
        for tree in random_trees(60, seed=32, most_leaves=8):
            schema = Schema(text_of(tree))
            columns = columns_in(tree, [random_document(rng, tree) for _ in range(rng.randint(0, 3))])
            found = nodes_of(tree)
            for leaf, place in enumerate(leaves_of(tree)):
                for node in range(-2, len(found) + 1):
                    if node == -1 or node in found[place][1]:
                        wanted = prefix_in(tree, columns[leaf], node)
                        self.assertEqual(prefix(schema, leaf, columns[leaf], node), wanted)
                    else:
                        self.assert_fault(("InvalidNode",), prefix, schema, leaf, columns[leaf], node)

    def test_no_documents(self):
        for node in [-1, 0, 2, 3]:
            self.assertEqual(prefix(Schema(EXAMPLE), 1, [], node), [])

    def test_errors_in_their_order(self):
        schema = Schema(EXAMPLE)
        for leaf in [-1, 4, 10 ** 59]:
            self.assert_fault(("InvalidLeaf",), prefix, schema, leaf, None, 99)
        for column, place in [(None, -1), ((), -1), ([None], 0), (COLUMNS[1] + [(2, 1, 0)], 3)]:
            for node in [-2, -1, 1, 2, 9]:
                self.assert_fault(("InvalidColumns", 1, place), prefix, schema, 1, column, node)
        for node in [-2, 1, 4, 5, 6, 7, 8, 9, 10 ** 59, 1 - 10 ** 60]:
            self.assert_fault(("InvalidNode",), prefix, schema, 1, COLUMNS[1], node)


class Fitting(Calls):

    def test_the_example_of_the_document(self):
        self.assertIsNone(self.result_of(first_misfit, schema=Schema(EXAMPLE), columns=COLUMNS))
        self.assertEqual(self.result_of(joined, schema=Schema(EXAMPLE), columns=COLUMNS), [FIRST, SECOND])

    def test_columns_of_one_table_fit(self):
        rng = random.Random(33)
        for tree in random_trees(150, seed=34):
            schema = Schema(text_of(tree))
            table = [random_document(rng, tree) for _ in range(rng.randint(0, 4))]
            columns = columns_in(tree, table)
            self.assertIsNone(self.result_of(first_misfit, schema=schema, columns=columns))
            found = self.result_of(joined, schema=schema, columns=columns)
            self.assertEqual(key_orders(found), key_orders([ordered(tree, part) for part in table]))
            self.assertEqual(joined(schema, split(schema, table)), table)

    def test_one_leaf_fits_with_itself(self):
        for text, column in [("v", [(0, 0, 1)]), ("[?v]", [(0, 1, None), (1, 2, 3)]), ("?v", [])]:
            self.assertIsNone(first_misfit(Schema(text), [column]))
        self.assertEqual(joined(Schema("[?v]"), [[(0, 1, None), (1, 2, 3)]]), [[(), (3,)]])

    def test_misfits_by_hand(self):
        pair, both = [(0, 1, 1), (1, 1, 2)], Schema("{a:v b:[{c:v d:?v}]}")
        for columns, wanted in [
                ([[(0, 0, 5)], pair, [(0, 1, None), (1, 2, 0)]], None),
                ([[], pair, [(0, 1, None), (1, 2, 0)]], (1, 0)),
                ([[(0, 0, 5), (0, 0, 5)], pair, [(0, 1, None), (1, 2, 0)]], (1, 2)),
                ([[(0, 0, 5)], pair + [(0, 0, None)], [(0, 1, None), (1, 2, 0)]], (1, 2)),
                ([[(0, 0, 5)], [], [(0, 1, None)]], (1, 0)),
                ([[(0, 0, 5)], pair, [(0, 1, None)]], (2, 1)),
                ([[(0, 0, 5)], pair, []], (2, 0)),
                ([[(0, 0, 5)], pair, [(0, 0, None)]], (2, 0)),
                ([[(0, 0, 5)], pair, [(0, 2, 1), (1, 1, None), (1, 1, None)]], (2, 2)),
                ([[(0, 0, 5)], pair, [(0, 2, 1), (0, 0, None)]], (2, 1)),
                ([[], pair, []], (1, 0))]:
            self.assertEqual(self.result_of(first_misfit, schema=both, columns=columns), wanted, columns)
            fault = None if wanted is None else ("NotFitting",) + wanted
            self.assertEqual(fault_of(joined, both, columns), fault)

    def test_the_entry_is_that_of_the_column(self):
        # Entries of a deeper list stand between those of the prefix, and count.
        schema = Schema("{a:v b:[v]}")
        longer = [(0, 1, 1), (1, 1, 2), (1, 1, 3), (0, 1, 4), (1, 1, 5)]
        self.assertEqual(first_misfit(schema, [[(0, 0, 1)], longer]), (1, 3))
        self.assertEqual(first_misfit(schema, [[(0, 0, 1)] * 3, longer]), (1, 5))
        self.assertIsNone(first_misfit(schema, [[(0, 0, 1)] * 2, longer]))
        self.assertEqual(first_misfit(Schema("{b:[v] a:v}"), [longer, [(0, 0, 1)] * 3]), (1, 2))
        self.assertEqual(first_misfit(Schema("{b:[v] a:v}"), [longer, [(0, 0, 1)]]), (1, 1))

    def test_columns_of_several_tables(self):
        rng = random.Random(35)
        told = []
        for tree in random_trees(400, seed=36):
            schema = Schema(text_of(tree))
            columns = mixed_columns(rng, tree)
            wanted = misfit_in(tree, columns)
            self.assertEqual(self.result_of(first_misfit, schema=schema, columns=columns), wanted)
            told.append(wanted is None)
            if wanted is None:
                self.assertEqual(columns_in(tree, joined(schema, columns)), columns)
            else:
                self.assert_fault(("NotFitting",) + wanted, joined, schema, columns)
        self.assertGreater(told.count(True), 50)
        self.assertGreater(told.count(False), 50)

    def test_one_column_of_another_table(self):
        rng = random.Random(37)
        tree = tree_of(DEEP)
        for _ in range(60):
            table = [random_document(rng, tree) for _ in range(2)]
            other = [redrawn(rng, tree, part) for part in table]
            for leaf in range(len(leaves_of(tree))):
                columns = columns_in(tree, table)
                columns[leaf] = column_in(tree, leaf, other)
                self.assertEqual(first_misfit(Schema(DEEP), columns), misfit_in(tree, columns))

    def test_a_column_with_fewer_entries(self):
        rng = random.Random(38)
        for tree in random_trees(60, seed=39, most_leaves=6):
            columns = columns_in(tree, [random_document(rng, tree) for _ in range(3)])
            for leaf, many in itertools.product(range(len(columns)), range(4)):
                shorter = columns[:leaf] + [columns[leaf][:many]] + columns[leaf + 1:]
                self.assertEqual(first_misfit(Schema(text_of(tree)), shorter), misfit_in(tree, shorter))

    def test_three_hundred_documents(self):
        schema, table = Schema(EXAMPLE), [dict(SECOND, name=number) for number in range(300)]
        columns = split(schema, table)
        self.assertEqual(joined(schema, columns), table)
        columns[2] = columns[2][:-1]
        self.assertEqual(first_misfit(schema, columns), (2, 299))
        self.assert_fault(("NotFitting", 2, 299), joined, schema, columns)


class Errors(Calls):

    def test_objects_that_are_no_columns(self):
        for text, many in [(EXAMPLE, 4), ("v", 1), (TWELVE, 12)]:
            schema = Schema(text)
            things = [[[] for _ in range(wrong)] for wrong in [0, many - 1, many + 1]] + [tuple([] for _ in range(many))]
            for thing in OTHER_OBJECTS + things + [schema, {number: [] for number in range(many)}]:
                for function in [first_misfit, joined]:
                    self.assert_fault(("InvalidColumns", -1, -1), function, schema, thing)

    def test_the_first_wrong_column_decides(self):
        schema = Schema(EXAMPLE)
        for function in [first_misfit, joined]:
            for leaf, second in itertools.combinations(range(4), 2):
                for wrong, place in [(None, -1), ((), -1), ([None], 0), (COLUMNS[leaf] + [(4, 0, 0)], len(COLUMNS[leaf]))]:
                    columns = list(COLUMNS)
                    columns[leaf], columns[second] = wrong, [True]
                    self.assert_fault(("InvalidColumns", leaf, place), function, schema, columns)

    def test_wrong_columns_come_before_misfits(self):
        schema = Schema(EXAMPLE)
        for function in [first_misfit, joined]:
            self.assert_fault(("InvalidColumns", 3, 1), function, schema, [[], COLUMNS[1], [], [(0, 0, None), (1, 2, 1)]])

    def test_functions_stand_in_their_file(self):
        for named in [prefix, first_misfit, joined]:
            self.assertEqual(named.__module__, "levelcolumns.fitting")

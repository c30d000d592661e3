"""Point 1: the parts of the program agree with one another, on one drawn table and live table."""

import random
import unittest

from levelcolumns.asks import answered, needs_of, told_of
from levelcolumns.columns import column_fault, split, table_of
from levelcolumns.counts import count_tables
from levelcolumns.documents import cut_table, table_fault
from levelcolumns.edits import put_document, stretch, take_document
from levelcolumns.evolve import cut_columns, into_list, into_maybe, out_of, with_field
from levelcolumns.fitting import first_misfit, joined, prefix
from levelcolumns.live import LiveTable
from levelcolumns.machines import entries_of
from levelcolumns.masks import filtered, mask
from levelcolumns.misfits import count_greatest, greatest_fit, misfit_groups, misfits, shows_groups, suspects
from levelcolumns.packing import carriers, packed, unpacked
from levelcolumns.pages import bits_by_pages, cut_pages, page_numbers, page_state
from levelcolumns.questions import fewest_leaves, is_enough, lightest_leaves, parted, shows_parted
from levelcolumns.schemas import Schema, cut, leaf_nodes, matching, meeting, way_of
from levelcolumns.session import session
from levelcolumns.texts import read_column, read_test, write_column, write_test
from tests.edited import drawn
from tests.samples import filter_nodes, random_ask, random_test
from tests.tools import fault_of


def live_of(schema, table):
    live = LiveTable(schema)
    for index, document in enumerate(table):
        live.put_document(index, document)
    return live


class OneTable(unittest.TestCase):
    """Each test draws tables, and asks several parts of the program for the same thing."""

    def each(self, seed, many=60):
        for rng, tree, schema, table in drawn(seed, many, 7, 5):
            yield rng, tree, schema, table, split(schema, table), live_of(schema, table)

    def test_split_joined_and_live(self):
        for rng, tree, schema, table, columns, live in self.each(241):
            self.assertIsNone(table_fault(schema, table))
            self.assertEqual(joined(schema, columns), table)
            self.assertEqual((live.columns(), live.table(), len(live)), (columns, table, len(table)))
            for leaf, column in enumerate(columns):
                self.assertIsNone(column_fault(schema, leaf, column))
                self.assertEqual(table_of(schema, leaf, column), cut_table(schema, table, [leaf]))
                spans = [stretch(schema, leaf, column, -1, (index,)) for index in range(len(table))]
                self.assertEqual([entry for begin, end in spans for entry in column[begin:end]], column)
                self.assertEqual(len(spans), len(prefix(schema, leaf, column, -1)))

    def test_spoilt_columns(self):
        for rng, tree, schema, table, columns, live in self.each(242, 100):
            if table == [] or len(schema) == 1:
                continue
            leaf = rng.randrange(len(schema))
            spoilt = list(columns)
            spoilt[leaf] = take_document(schema, columns, 0)[leaf]
            pairs = misfits(schema, spoilt)
            self.assertTrue(all(leaf in pair for pair in pairs))
            self.assertIn(leaf, suspects(schema, spoilt))
            self.assertIsNotNone(first_misfit(schema, spoilt))
            self.assertEqual(fault_of(joined, schema, spoilt), ("NotFitting",) + first_misfit(schema, spoilt))
            groups = misfit_groups(schema, spoilt)
            self.assertTrue(shows_groups(schema, spoilt, groups))
            self.assertEqual(len(groups), len(greatest_fit(schema, spoilt)))
            self.assertGreaterEqual(count_greatest(schema, spoilt), 1)
            kept = greatest_fit(schema, spoilt)
            self.assertIsNone(first_misfit(cut(schema, kept), [spoilt[other] for other in kept]))

    def test_questions_and_their_leaves(self):
        for rng, tree, schema, table, columns, live in self.each(243):
            ask = random_ask(rng, tree)
            needed = needs_of(schema, ask)
            wanted = told_of(schema, table, ask)
            self.assertEqual(live.ask(ask), wanted)
            lengths = [len(column) for column in columns]
            for leaves in [fewest_leaves(schema, needed), lightest_leaves(schema, needed, lengths)]:
                self.assertTrue(is_enough(schema, needed, leaves))
                self.assertIsNone(parted(schema, needed, leaves))
                held = [column if leaf in leaves else None for leaf, column in enumerate(columns)]
                self.assertEqual(answered(schema, leaves, held, ask), wanted)
                fewer = leaves[:-1]
                if is_enough(schema, needed, fewer):
                    continue
                self.assertTrue(shows_parted(schema, needed, fewer, parted(schema, needed, fewer)))
                self.assertEqual(fault_of(answered, schema, fewer, held, ask)[0], "NotEnough")

    def test_filters(self):
        for rng, tree, schema, table, columns, live in self.each(244):
            node = rng.choice(filter_nodes(tree))
            test, ask = random_test(rng, tree, node), random_ask(rng, tree)
            bits = mask(schema, columns, node, test)
            found = filtered(schema, columns, node, bits)
            where = ("where", node, test, ask)
            self.assertEqual(told_of(schema, joined(schema, found), ask), told_of(schema, table, where))
            self.assertEqual(live.ask(("count", node)), len(bits))
            self.assertEqual(live.ask(("where", node, test, ("count", node))), bits.count(True))
            asked = live.ask(where)
            live.keep(node, read_test(write_test(test)))
            self.assertEqual(live.columns(), found)
            self.assertEqual(live.ask(ask), asked)
            live.undo()
            self.assertEqual(live.columns(), columns)

    def test_changed_schemas(self):
        for rng, tree, schema, table, columns, live in self.each(245):
            many = len(leaf_nodes(schema))
            leaves = sorted(rng.sample(range(many), rng.randint(1, many)))
            smaller, fewer = cut_columns(schema, columns, leaves)
            self.assertEqual(smaller, cut(schema, leaves))
            self.assertEqual(joined(smaller, fewer), cut_table(schema, table, leaves))
            for function in [into_maybe, into_list]:
                node = rng.choice(leaf_nodes(schema))
                if fault_of(function, schema, columns, node) is None:
                    wider, more = function(schema, columns, node)
                    self.assertEqual(len(way_of(wider, node + 1)), len(way_of(schema, node)) + 1)
                    self.assertIsNone(first_misfit(wider, more))
                    self.assertEqual(live_of(wider, joined(wider, more)).columns(), more)
                    self.assertEqual(out_of(wider, more, node), (schema, columns))
            if fault_of(with_field, schema, columns, 0, "zz", "v") is None:
                wider, more = with_field(schema, columns, 0, "zz", "v")
                self.assertEqual(told_of(wider, joined(wider, more), ("count", leaf_nodes(wider)[-1])), 0)
                self.assertEqual(cut_columns(wider, more, list(range(many))), (schema, columns))

    def test_the_machine(self):
        for rng, tree, schema, table, columns, live in self.each(246):
            many = len(schema)
            leaves = sorted(rng.sample(range(many), rng.randint(1, many)))
            met = {leaf: [] for leaf in leaves}
            for leaf, entry in entries_of(schema, leaves, live.columns()):
                met[leaf].append(entry)
            self.assertEqual(list(met.values()), [columns[leaf] for leaf in leaves])
            self.assertEqual(joined(cut(schema, leaves), list(met.values())), cut_table(schema, table, leaves))

    def test_packed_levels(self):
        for rng, tree, schema, table, columns, live in self.each(247):
            documents, levels, values = packed(schema, columns)
            self.assertEqual(documents, len(live))
            self.assertEqual(unpacked(schema, (documents, levels, values)), live.columns())
            for leaf, tuples in zip(carriers(schema), levels):
                self.assertEqual([entry[:2] for entry in columns[leaf]], tuples)
            for leaf, node in enumerate(leaf_nodes(schema)):
                self.assertEqual(live.ask(("values", node)), values[leaf])

    def test_counted_tables(self):
        for rng, tree, schema, table, columns, live in self.each(248):
            lengths = [len(column) for column in columns]
            if max(lengths) <= 24:
                counted = count_tables(schema, len(live), lengths)
                self.assertGreaterEqual(counted, 1)
                if carriers(schema) == []:
                    self.assertEqual(counted, 1)
                # Two schemas whose leaves match have as many tables of the same columns.
                other = Schema("{other:" + schema.text + "}")
                if fault_of(Schema, other.text) is None:
                    order = matching(other, schema)
                    self.assertEqual(count_tables(other, len(live), [lengths[leaf] for leaf in order]), counted)

    def test_pages(self):
        for rng, tree, schema, table, columns, live in self.each(249):
            leaf = rng.randrange(len(schema))
            test = (rng.choice(["some", "all"]), leaf_nodes(schema)[leaf], rng.choice("<=>"), rng.choice([-1, 0, 1, 7]))
            pages = cut_pages(schema, leaf, columns[leaf], rng.randint(1, 3))
            bits, read = bits_by_pages(schema, leaf, pages, test)
            self.assertEqual(bits, mask(schema, columns, -1, test))
            self.assertEqual(bits.count(True), live.ask(("where", -1, test, ("count", -1))))
            for index, page in enumerate(pages):
                state = page_state(schema, leaf, page_numbers(schema, leaf, page), test)
                self.assertEqual(index in read, state == "read")
                begin = sum(page_numbers(schema, leaf, other)[0] for other in pages[:index])
                told = bits[begin:begin + page_numbers(schema, leaf, page)[0]]
                if state != "read":
                    self.assertEqual(set(told), {state == "yes"})
            if table:
                numbers = page_numbers(schema, leaf, columns[leaf])
                values = live.ask(("values", leaf_nodes(schema)[leaf]))
                self.assertEqual(numbers, (len(live), len(columns[leaf]), len(values), min(values, default=None),
                                           max(values, default=None)))

    def test_sessions(self):
        for rng, tree, schema, table, columns, live in self.each(250):
            lines, wanted = ["schema " + schema.text], ["ok"]
            for document in table:
                single = put_document(schema, [[] for _ in range(len(schema))], 0, document)
                lines.append("put " + " / ".join(write_column(column) for column in single))
                wanted.append("ok")
            for leaf, column in enumerate(columns):
                self.assertEqual(read_column(write_column(column)), column)
                lines.append(f"column {leaf}")
                wanted.append(write_column(column))
            node = rng.choice(filter_nodes(tree))
            test = random_test(rng, tree, node, 3)
            lines += ["mark", f"keep {node} {write_test(test)}", "count -1", "back 0", "count -1"]
            wanted += ["0", "ok", str(live.ask(("where", node, test, ("count", -1)))), "ok", str(len(live))]
            self.assertEqual(session("\n".join(lines)).split("\n"), wanted)

    def test_values_that_are_returned_may_be_passed_back_also_with_more(self):
        schema = Schema("{a:[v] b:v}")
        columns = split(schema, [{"a": list(range(400)), "b": 1}])
        for _ in range(3):
            columns = put_document(schema, columns, 0, {"a": list(range(400)), "b": 2})
        self.assertEqual([len(column) for column in columns], [1600, 4])
        self.assertEqual(joined(schema, columns)[3]["b"], 1)
        self.assertEqual(sum(mask(schema, columns, 1, ("some", 2, "<", 10))), 40)
        self.assertEqual(unpacked(schema, packed(schema, columns)), columns)
        self.assertEqual(len(list(entries_of(schema, [0, 1], columns))), 1604)
        self.assertEqual([len(page) for page in cut_pages(schema, 0, columns[0], 3)], [1200, 400])
        # Of three documents one may have all the least values; the last page is one document with all of them.
        self.assertEqual(bits_by_pages(schema, 0, cut_pages(schema, 0, columns[0], 3), ("some", 2, "<", 10)),
                         ([True] * 4, [0]))
        self.assertEqual(len(write_column(columns[0]).split(" ")), 1600)
        self.assertEqual(into_list(schema, columns, 1)[1][0][:2], [(0, 2, 0), (2, 2, 1)])
        self.assertEqual(meeting(schema, 0, 1), 0)

    def test_equal_arguments_have_equal_results_where_the_result_is_free(self):
        rng = random.Random(251)
        for _, tree, schema, table, columns, live in self.each(252, 20):
            needed = [-1] + sorted(rng.sample(leaf_nodes(schema), 1))
            for leaves in [[], [0]]:
                self.assertEqual(parted(schema, needed, leaves), parted(Schema(schema.text), list(needed), list(leaves)))
            self.assertEqual(misfit_groups(schema, columns), misfit_groups(Schema(schema.text), live.columns()))

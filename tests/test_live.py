"""Point 20: live tables, which are taken back step by step."""

import copy
import random
import unittest

from levelcolumns import edits
from levelcolumns.asks import told_of
from levelcolumns.columns import split
from levelcolumns.live import LiveTable
from levelcolumns.masks import filtered, mask
from levelcolumns.schemas import Schema
from tests.edited import nodes_with, places_of, tree_at, with_part
from tests.samples import (EXAMPLE, OTHER_OBJECTS, columns_in, filter_nodes, holds, nodes_of, ordered, pieces_at,
                           random_ask, random_document, random_test, random_trees, text_of, told_in, tree_of, with_bits)
from tests.test_asks import NO_ASKS
from tests.test_columns import COLUMNS, FIRST, SECOND
from tests.tools import fault_of, key_orders, lists_and_dicts


def live_with(text, table):
    live = LiveTable(Schema(text))
    for document in table:
        live.put_document(len(live), document)
    return live


def drawn_call(rng, tree, table):
    """A call of an edit or of keep that is valid: its name, its arguments, and the table behind it."""
    node = rng.randrange(-1, len(nodes_of(tree)))
    if rng.random() < 0.15:
        node = rng.choice(filter_nodes(tree))
        test = random_test(rng, tree, node, 3)
        bits = [holds(tree, node, test, piece) for piece in pieces_at(tree, node, table)]
        return "keep", (node, test), with_bits(tree, node, table, bits)
    places = places_of(tree, node, table)
    if node == -1 or not places or nodes_of(tree)[node][0] == "{":
        index = rng.randint(0, len(table))
        if index < len(table) and rng.random() < 0.4:
            return "take_document", (index,), table[:index] + table[index + 1:]
        new = ordered(tree, random_document(rng, tree))
        return "put_document", (index, new), table[:index] + [new] + table[index:]
    path, part = rng.choice(places)
    below, sign = tree_at(tree, node), nodes_of(tree)[node][0]
    if sign != "[":
        new = ordered(below, random_document(rng, below))
        return "set_maybe" if sign == "?" else "set_value", (node, path, new), with_part(tree, table, node, path, new)
    index = rng.randint(0, len(part))
    if index < len(part) and rng.random() < 0.5:
        return "take_element", (node, path, index), with_part(tree, table, node, path, part[:index] + part[index + 1:])
    new = ordered(below[1], random_document(rng, below[1]))
    return "put_element", (node, path, index, new), with_part(tree, table, node, path, part[:index] + [new] + part[index:])


def wrong_call(rng, tree, table):
    """A call that raises an error, whatever the table is."""
    return rng.choice([
        ("put_element", (-1, (0,), 0, 1)), ("put_element", (99, (0,), 0, 1)), ("take_element", (0, None, 0)) if
        nodes_of(tree)[0][0] != "[" else ("take_element", (0, None, 0)), ("set_maybe", (99, (0,), ())),
        ("set_value", (99, (0,), 1)), ("put_document", (-1, 0)), ("put_document", (0, None)),
        ("put_document", (len(table) + 1, 0)), ("take_document", (len(table),)), ("take_document", (-1,)),
        ("keep", (-1, None)), ("keep", (99, None)), ("ask", (None,)), ("undo_to", (-1,)), ("undo_to", (10 ** 59,))])


class LiveCalls(unittest.TestCase):

    def assert_live(self, live, tree, table):
        self.assertEqual(live.columns(), columns_in(tree, table))
        self.assertEqual(key_orders(live.table()), key_orders(table))
        self.assertEqual(len(live), len(table))


class Methods(LiveCalls):

    def test_a_new_one_has_no_documents(self):
        for text in [EXAMPLE, "v", "[v]"]:
            live = LiveTable(Schema(text))
            self.assert_live(live, tree_of(text), [])
            self.assertEqual(live.ask(("count", -1)), 0)
            self.assertEqual(fault_of(live.undo), ("NothingToUndo",))
            self.assertEqual(fault_of(live.undo_to, 0), ("InvalidNumber",))
        self.assertEqual(LiveTable(schema=Schema("v")).table(), [])

    def test_each_method_by_hand(self):
        live, tree = LiveTable(Schema(EXAMPLE)), tree_of(EXAMPLE)
        for name, arguments, wanted in [
                ("put_document", (0, SECOND), [SECOND]), ("put_document", (0, FIRST), [FIRST, SECOND]),
                ("put_element", (2, (0,), 0, 4), [dict(FIRST, tags=[4]), SECOND]),
                ("put_element", (2, (0,), 1, 5), [dict(FIRST, tags=[4, 5]), SECOND]),
                ("take_element", (2, (0,), 0), [dict(FIRST, tags=[5]), SECOND]),
                ("set_maybe", (4, (0,), ({"x": 1, "y": []},)), [dict(FIRST, tags=[5], at=({"x": 1, "y": []},)), SECOND]),
                ("set_value", (6, (0,), 9), [dict(FIRST, tags=[5], at=({"x": 9, "y": []},)), SECOND]),
                ("set_maybe", (4, (0,), ()), [dict(FIRST, tags=[5]), SECOND]),
                ("keep", (2, ("some", 3, ">", 1)), [dict(FIRST, tags=[5]), dict(SECOND, tags=[2])]),
                ("keep", (-1, ("all", 3, "<", 5)), [dict(SECOND, tags=[2])]), ("take_document", (0,), [])]:
            self.assertIsNone(getattr(live, name)(*arguments))
            self.assert_live(live, tree, wanted)

    def test_arguments_by_name(self):
        live = LiveTable(schema=Schema(EXAMPLE))
        self.assertIsNone(live.put_document(part=SECOND, index=0))
        self.assertIsNone(live.put_element(part=9, index=0, path=(0,), node=2))
        self.assertIsNone(live.take_element(index=1, path=(0,), node=2))
        self.assertIsNone(live.set_maybe(part=(), path=(0,), node=4))
        self.assertIsNone(live.set_value(part=-1, path=(0,), node=1))
        self.assertEqual(live.table(), [{"name": -1, "tags": [9, 2], "at": ()}])
        self.assertIsNone(live.keep(test=("some", 3, "<", 9), node=2))
        self.assertEqual(live.ask(ask=("values", 3)), [2])
        self.assertEqual(live.mark(), 0)
        self.assertIsNone(live.take_document(index=0))
        self.assertIsNone(live.undo_to(index=0))
        self.assertEqual(live.ask(ask=("values", 3)), [2])

    def test_many_calls_against_documents(self):
        rng = random.Random(211)
        for tree in random_trees(80, seed=212, most_leaves=6):
            live, table = LiveTable(Schema(text_of(tree))), []
            for _ in range(20):
                name, arguments, wanted = drawn_call(rng, tree, table)
                before = copy.deepcopy(arguments)
                if max(len(column) for column in columns_in(tree, wanted)) <= 400:
                    self.assertIsNone(getattr(live, name)(*arguments))
                    self.assertEqual(key_orders(arguments), key_orders(before))
                    table = wanted
                self.assert_live(live, tree, table)
                ask = random_ask(rng, tree)
                self.assertEqual(live.ask(ask), told_in(tree, table, ask))

    def test_it_agrees_with_the_functions(self):
        rng = random.Random(213)
        for tree in random_trees(60, seed=214, most_leaves=6):
            schema, table = Schema(text_of(tree)), []
            live, columns = LiveTable(schema), [[] for _ in range(len(schema))]
            for _ in range(12):
                name, arguments, table = drawn_call(rng, tree, table)
                getattr(live, name)(*arguments)
                if name == "keep":
                    columns = filtered(schema, columns, arguments[0], mask(schema, columns, *arguments))
                else:
                    columns = getattr(edits, name)(schema, columns, *arguments)
                self.assertEqual(live.columns(), columns)
                ask = random_ask(rng, tree)
                self.assertEqual(live.ask(ask), told_of(schema, table, ask))

    def test_what_is_returned_and_then_changed(self):
        live = live_with(EXAMPLE, [FIRST, SECOND])
        for method, wanted in [(live.columns, COLUMNS), (live.table, [FIRST, SECOND]),
                               (lambda: live.ask(("values", 3)), [1, 2]), (lambda: live.ask(("lengths", 2)), [0, 2])]:
            first, second = method(), method()
            self.assertEqual(first, wanted)
            own = [id(thing) for thing in lists_and_dicts(first) + lists_and_dicts(second)]
            self.assertEqual(len(own), len(set(own)))
            for thing in lists_and_dicts(first):
                thing.clear()
            self.assertEqual(method(), wanted)
            self.assertEqual(live.columns(), COLUMNS)

    def test_a_part_that_is_put_in_and_then_changed(self):
        live, part = LiveTable(Schema(EXAMPLE)), copy.deepcopy(SECOND)
        live.put_document(0, part)
        part["tags"].append(9)
        part["at"][0]["y"].clear()
        part["name"] = 7
        self.assertEqual(live.table(), [SECOND])

    def test_columns_of_an_undone_state_that_are_changed(self):
        live = live_with(EXAMPLE, [FIRST])
        before = live.columns()
        live.put_document(1, SECOND)
        for column in before:
            column.append((0, 0, 99))
        live.undo()
        self.assertEqual(live.table(), [FIRST])

    def test_two_live_tables_are_not_equal(self):
        one, other = live_with(EXAMPLE, [FIRST]), live_with(EXAMPLE, [FIRST])
        self.assertFalse(one == other)
        self.assertTrue(one != other)
        self.assertTrue(one == one)
        self.assertFalse(one == one.twin())
        for thing in OTHER_OBJECTS + [[FIRST], one.columns(), Schema(EXAMPLE)]:
            self.assertFalse(one == thing)
        self.assertEqual(len({one: 1, other: 2}), 2)

    def test_it_stands_in_its_file(self):
        self.assertEqual(LiveTable.__module__, "levelcolumns.live")
        for name in ["put_element", "take_element", "set_maybe", "set_value", "put_document", "take_document", "keep",
                     "columns", "table", "ask", "undo", "mark", "undo_to", "twin", "__len__"]:
            self.assertIn(name, vars(LiveTable))
        self.assertNotIn("__eq__", vars(LiveTable))


class Limits(LiveCalls):

    def test_four_hundred_entries_and_one_more(self):
        live, tree = LiveTable(Schema("{a:[v] b:v}")), tree_of("{a:[v] b:v}")
        document = {"a": list(range(399)), "b": 1}
        live.put_document(0, document)
        live.put_element(1, (0,), 399, -1)
        table = [dict(document, a=document["a"] + [-1])]
        self.assert_live(live, tree, table)
        for name, arguments in [("put_element", (1, (0,), 0, 5)), ("put_document", (0, {"a": [], "b": 2})),
                                ("put_document", (1, document))]:
            self.assertEqual(fault_of(getattr(live, name), *arguments), ("TooLarge",))
            self.assert_live(live, tree, table)
        live.set_value(2, (0, 0), 7)
        live.undo()
        self.assert_live(live, tree, table)
        live.undo()
        self.assert_live(live, tree, [document])
        live.put_document(1, {"a": [], "b": 2})
        self.assertEqual(len(live), 2)

    def test_which_edits_are_too_large(self):
        live = LiveTable(Schema("[?[v]]"))
        live.put_document(0, [([0] * 200,), ([0] * 200,), ()][:2])
        self.assertEqual(fault_of(live.put_element, 0, (0,), 2, ()), ("TooLarge",))
        self.assertEqual(fault_of(live.set_maybe, 1, (0, 0), ([0] * 201,)), ("TooLarge",))
        self.assertEqual(fault_of(live.put_document, 1, []), ("TooLarge",))
        self.assertIsNone(live.set_maybe(1, (0, 0), ([1] * 200,)))
        self.assertIsNone(live.set_maybe(1, (0, 0), ()))
        self.assertIsNone(live.put_document(1, [([2] * 199,)]))
        self.assertEqual(len(live.columns()[0]), 400)
        for _ in range(4):
            live.undo()
        self.assertEqual(live.table(), [])
        self.assertEqual(fault_of(live.undo), ("NothingToUndo",))

    def test_a_table_of_more_than_three_hundred_documents(self):
        live = LiveTable(Schema("[v]"))
        for number in range(140):
            live.put_document(number, [number])
        self.assertEqual(len(live), 140)
        live.mark()
        for _ in range(5):
            live.keep(0, ("some", 1, "<", 70))
        self.assertEqual(live.ask(("sum", 1)), 69 * 35)
        live.undo_to(0)
        self.assertEqual(live.ask(("sum", 1)), 139 * 70)

    def test_too_large_comes_behind_the_other_errors(self):
        live = LiveTable(Schema("[v]"))
        live.put_document(0, [0] * 400)
        for name, arguments, wanted in [
                ("put_element", (1, (0,), 0, 5), "InvalidNode"), ("put_element", (0, (1,), 0, 5), "InvalidPath"),
                ("put_element", (0, (0,), 401, 5), "InvalidPath"), ("put_element", (0, (0,), 400, None), "InvalidPart"),
                ("put_element", (0, (0,), 400, 5), "TooLarge"), ("put_document", (2, []), "InvalidPath"),
                ("put_document", (1, None), "InvalidPart"), ("put_document", (1, []), "TooLarge")]:
            self.assertEqual(fault_of(getattr(live, name), *arguments), (wanted,))


class Undo(LiveCalls):

    def test_marks_by_hand(self):
        live, tree = LiveTable(Schema("v")), tree_of("v")
        self.assertEqual([live.mark(), live.mark()], [0, 1])
        live.put_document(0, 5)
        self.assertEqual(live.mark(), 2)
        live.put_document(1, 6)
        self.assertEqual([live.mark(), live.mark()], [3, 4])
        live.undo()
        # The marks behind the undone call are gone, the others are not.
        self.assert_live(live, tree, [5])
        for index in [3, 4, 5]:
            self.assertEqual(fault_of(live.undo_to, index), ("InvalidNumber",))
        self.assertEqual(live.mark(), 3)
        self.assertIsNone(live.undo_to(2))
        self.assert_live(live, tree, [5])
        self.assertEqual(fault_of(live.undo_to, 3), ("InvalidNumber",))
        live.put_document(0, 7)
        live.put_document(0, 8)
        self.assertIsNone(live.undo_to(2))
        self.assert_live(live, tree, [5])
        self.assertIsNone(live.undo_to(0))
        self.assert_live(live, tree, [])
        # The mark is kept, later ones are removed, and there is nothing to undo.
        self.assertEqual(fault_of(live.undo), ("NothingToUndo",))
        self.assertEqual(fault_of(live.undo_to, 1), ("InvalidNumber",))
        self.assertIsNone(live.undo_to(0))
        self.assertEqual(live.mark(), 1)

    def test_undo_to_is_not_undone(self):
        live, tree = live_with("v", [1, 2]), tree_of("v")
        live.mark()
        live.put_document(2, 3)
        live.undo_to(0)
        live.undo()
        self.assert_live(live, tree, [1])

    def test_an_edit_that_leaves_all_as_it_is(self):
        live = live_with(EXAMPLE, [FIRST])
        for name, arguments in [("set_value", (1, (0,), 1)), ("set_maybe", (4, (0,), ())),
                                ("keep", (-1, ("all", 1, "<", 9))), ("keep", (2, ("some", 3, "=", 0)))]:
            getattr(live, name)(*arguments)
            self.assertEqual(live.table(), [FIRST])
        for left in range(4):
            live.undo()
            self.assertEqual(live.table(), [FIRST])
        live.undo()
        self.assertEqual(live.table(), [])
        self.assertEqual(fault_of(live.undo), ("NothingToUndo",))

    def test_undo_and_marks_in_any_sequence(self):
        rng, met = random.Random(215), set()
        for tree in random_trees(60, seed=216, most_leaves=5):
            live = LiveTable(Schema(text_of(tree)))
            # All tables so far, the last one now, and for each mark how many stood there.
            tables, marks = [[]], []
            for _ in range(50):
                draw = rng.random()
                if draw < 0.4:
                    name, arguments, table = drawn_call(rng, tree, tables[-1])
                    getattr(live, name)(*arguments)
                    tables.append(table)
                elif draw < 0.55:
                    if len(tables) == 1:
                        self.assertEqual(fault_of(live.undo), ("NothingToUndo",))
                    else:
                        self.assertIsNone(live.undo())
                        tables.pop()
                        met.add(("undo", any(mark > len(tables) for mark in marks)))
                        marks = [mark for mark in marks if mark <= len(tables)]
                elif draw < 0.7:
                    self.assertEqual(live.mark(), len(marks))
                    marks.append(len(tables))
                elif draw < 0.8:
                    index = rng.randint(0, len(marks) + 1)
                    if index >= len(marks):
                        self.assertEqual(fault_of(live.undo_to, index), ("InvalidNumber",))
                    else:
                        self.assertIsNone(live.undo_to(index))
                        met.add(("undo_to", marks[index] < len(tables), index + 1 < len(marks)))
                        tables, marks = tables[:marks[index]], marks[:index + 1]
                else:
                    name, arguments = wrong_call(rng, tree, tables[-1])
                    self.assertIsNotNone(fault_of(getattr(live, name), *arguments), (name, arguments))
                self.assert_live(live, tree, tables[-1])
        self.assertEqual(len(met), 6)

    def test_wrong_marks(self):
        live = live_with("v", [1])
        live.mark()
        live.put_document(1, 2)
        for index in [-1, 1, 2, 10 ** 59, 1 - 10 ** 60, True, False]:
            self.assertEqual(fault_of(live.undo_to, index), ("InvalidNumber",))
            self.assertEqual(live.table(), [1, 2])
        self.assertIsNone(live.undo_to(0))


class Twins(LiveCalls):

    def test_a_twin_and_the_first_one_each_by_itself(self):
        tree = tree_of(EXAMPLE)
        live = live_with(EXAMPLE, [FIRST])
        live.mark()
        live.put_document(1, SECOND)
        twin = live.twin()
        self.assertIsInstance(twin, LiveTable)
        self.assert_live(twin, tree, [FIRST, SECOND])
        live.set_value(1, (0,), 9)
        self.assert_live(twin, tree, [FIRST, SECOND])
        twin.take_document(0)
        self.assert_live(live, tree, [dict(FIRST, name=9), SECOND])
        self.assertEqual([live.mark(), live.mark(), twin.mark()], [1, 2, 1])
        self.assertEqual(fault_of(twin.undo_to, 2), ("InvalidNumber",))
        # What the twin can undo is what the first one could.
        twin.undo()
        self.assert_live(twin, tree, [FIRST, SECOND])
        twin.undo_to(0)
        self.assert_live(twin, tree, [FIRST])
        twin.undo()
        self.assert_live(twin, tree, [])
        self.assertEqual(fault_of(twin.undo), ("NothingToUndo",))
        self.assert_live(live, tree, [dict(FIRST, name=9), SECOND])
        live.undo_to(0)
        self.assert_live(live, tree, [FIRST])

    def test_many_twins(self):
        rng = random.Random(217)
        for tree in random_trees(40, seed=218, most_leaves=5):
            pairs = [(LiveTable(Schema(text_of(tree))), [[]])]
            for _ in range(40):
                live, tables = rng.choice(pairs)
                draw = rng.random()
                if draw < 0.15 and len(pairs) < 5:
                    pairs.append((live.twin(), list(tables)))
                elif draw < 0.4 and len(tables) > 1:
                    live.undo()
                    tables.pop()
                else:
                    name, arguments, table = drawn_call(rng, tree, tables[-1])
                    getattr(live, name)(*arguments)
                    tables.append(table)
                for one, own in pairs:
                    self.assertEqual(one.columns(), columns_in(tree, own[-1]))


class Errors(LiveCalls):

    def test_errors_change_nothing(self):
        live = live_with(EXAMPLE, [FIRST, SECOND])
        live.mark()
        live.put_element(2, (0,), 0, 3)
        wanted = live.columns()
        for name, arguments, fault in [
                ("put_element", (1, None, 9, None), "InvalidNode"), ("put_element", (2, None, 9, None), "InvalidPath"),
                ("put_element", (2, (0,), 9, None), "InvalidPath"), ("put_element", (2, (0,), 0, None), "InvalidPart"),
                ("take_element", (4, (0,), 0), "InvalidNode"), ("take_element", (2, (2,), 0), "InvalidPath"),
                ("take_element", (2, (0,), 1), "InvalidPath"), ("set_maybe", (2, (0,), ()), "InvalidNode"),
                ("set_maybe", (4, (), ()), "InvalidPath"), ("set_maybe", (4, (0,), None), "InvalidPart"),
                ("set_value", (0, (0,), 1), "InvalidNode"), ("set_value", (3, (0,), 1), "InvalidPath"),
                ("set_value", (1, (0,), True), "InvalidPart"), ("put_document", (3, FIRST), "InvalidPath"),
                ("put_document", (2, [FIRST]), "InvalidPart"), ("take_document", (2,), "InvalidPath"),
                ("keep", (4, None), "InvalidNode"), ("keep", (2, None), "InvalidTest"),
                ("keep", (2, ("some", 1, "<", 3)), "InvalidTest"), ("undo_to", (1,), "InvalidNumber"),
                ("ask", (None,), "InvalidAsk"), ("ask", (("values", 2),), "InvalidAsk")]:
            self.assertEqual(fault_of(getattr(live, name), *arguments), (fault,), (name, arguments))
            self.assertEqual(live.columns(), wanted)
        # They are no calls that can be undone, and leave the marks.
        self.assertEqual(live.mark(), 1)
        live.undo()
        self.assertEqual(live.table(), [FIRST, SECOND])
        self.assertEqual(live.mark(), 1)

    def test_asks_that_are_none(self):
        live = live_with(EXAMPLE, [FIRST, SECOND])
        for ask in NO_ASKS + [live, ("count", live)]:
            self.assertEqual(fault_of(live.ask, ask), ("InvalidAsk",))

    def test_any_objects(self):
        live = live_with(EXAMPLE, [FIRST, SECOND])
        for thing in OTHER_OBJECTS + [live, Schema("v"), [live], (live,), {"name": live}]:
            self.assertIn(fault_of(live.put_document, 0, thing), [("InvalidPart",)])
            self.assertIn(fault_of(live.keep, -1, thing), [("InvalidTest",)])
            if thing != (0,):
                self.assertEqual(fault_of(live.put_element, 2, thing, 0, 1), ("InvalidPath",))
            if type(thing) is not int:
                self.assertEqual(fault_of(live.set_value, 1, (0,), thing), ("InvalidPart",))
        self.assertEqual(live.columns(), COLUMNS)
        self.assertEqual(live.columns(), split(Schema(EXAMPLE), live.table()))
        self.assertEqual([node for node in nodes_with(tree_of(EXAMPLE), "[")], [2, 7])

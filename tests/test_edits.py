"""Point 15: paths, stretches, and edits of documents in their columns."""

import itertools
import random

from levelcolumns.columns import split
from levelcolumns.edits import (put_document, put_element, set_maybe, set_value, stretch, take_document,
                                take_element)
from levelcolumns.fitting import joined
from levelcolumns.schemas import Schema
from tests.edited import drawn, nodes_with, places_of, stretch_in, tree_at, way_above, with_part
from tests.samples import (DEEP, EXAMPLE, OTHER_OBJECTS, TWELVE, columns_in, leaves_of, mixed_columns, nodes_of,
                           ordered, random_document, random_trees, text_of, tree_of)
from tests.test_columns import COLUMNS, FIRST, SECOND
from tests.test_fitting import misfit_in
from tests.test_questions import leaves_under
from tests.tools import Calls, fault_of

LISTS = "{a:[{b:v c:[v] d:?v}] e:v}"

RECORD = {"a": [{"b": 1, "c": [], "d": ()}, {"b": 2, "c": [3, 4], "d": (5,)}, {"b": 3, "c": [1], "d": ()}], "e": 9}

BARE = {"a": [], "e": 8}

# Besides these, a path may be too short or too long, or lead to what is not there.
NO_PATHS = OTHER_OBJECTS + [[], [0], [1], ((0,),), ([0],), (None,), ("0",), (True,), (False,), (-1,), (2,), (10 ** 59,),
                            (1 - 10 ** 60,), (0, 0, 0), {0: 0}, Schema("v"), (Schema("v"),)]


def turned(rng, part):
    """The same part with the names of its records in any sequence."""
    if isinstance(part, dict):
        names = list(part)
        rng.shuffle(names)
        return {name: turned(rng, part[name]) for name in names}
    if isinstance(part, (list, tuple)):
        return type(part)(turned(rng, inner) for inner in part)
    return part


class Edits(Calls):

    def assert_edit(self, tree, table, wanted, function, **named):
        """The columns of a table that is edited are those of the wanted one."""
        schema, columns = Schema(text_of(tree)), columns_in(tree, table)
        found = self.result_of(function, schema=schema, columns=columns, **named)
        self.assertEqual(found, columns_in(tree, wanted), (text_of(tree), table, named))
        self.assertEqual(joined(schema, found), wanted)
        return found

    def test_the_lists_of_the_example(self):
        tree = tree_of(EXAMPLE)
        for path, index, tags in [((0,), 0, [9]), ((1,), 0, [9, 1, 2]), ((1,), 1, [1, 9, 2]), ((1,), 2, [1, 2, 9])]:
            wanted = [FIRST, SECOND]
            wanted[path[0]] = dict(wanted[path[0]], tags=tags)
            self.assert_edit(tree, [FIRST, SECOND], wanted, put_element, node=2, path=path, index=index, part=9)
        for index, tags in [(0, [2]), (1, [1])]:
            self.assert_edit(tree, [FIRST, SECOND], [FIRST, dict(SECOND, tags=tags)], take_element,
                             node=2, path=(1,), index=index)
        found = put_element(Schema(EXAMPLE), COLUMNS, 2, (1,), 0, 9)
        self.assertEqual(found[1], [(0, 0, None), (0, 1, 9), (1, 1, 1), (1, 1, 2)])
        self.assertEqual(put_element(Schema(EXAMPLE), COLUMNS, 2, (0,), 0, 9)[1], [(0, 1, 9), (0, 1, 1), (1, 1, 2)])

    def test_maybes_and_values_of_the_example(self):
        tree = tree_of(EXAMPLE)
        for index, part in itertools.product(range(2), [(), ({"x": 1, "y": []},), ({"x": 1, "y": [4, 5]},)]):
            wanted = [FIRST, SECOND]
            wanted[index] = dict(wanted[index], at=part)
            self.assert_edit(tree, [FIRST, SECOND], wanted, set_maybe, node=4, path=(index,), part=part)
        self.assert_edit(tree, [FIRST, SECOND], [dict(FIRST, name=-4), SECOND], set_value, node=1, path=(0,), part=-4)
        self.assert_edit(tree, [FIRST, SECOND], [FIRST, dict(SECOND, tags=[1, 10 ** 60 - 1])], set_value,
                         node=3, path=(1, 1), part=10 ** 60 - 1)
        wanted = dict(SECOND, at=({"x": 5, "y": [1 - 10 ** 60]},))
        self.assert_edit(tree, [FIRST, SECOND], [FIRST, wanted], set_value, node=8, path=(1, 0), part=1 - 10 ** 60)

    def test_the_document_s_own_words(self):
        # The entry of an empty list becomes the one of its only element, and back.
        schema, columns = Schema("[[v]]"), [[(0, 1, None), (1, 2, 5), (0, 0, None)]]
        for node, path, index, part, wanted in [
                (1, (0, 0), 0, 7, [(0, 2, 7), (1, 2, 5), (0, 0, None)]),
                (1, (0, 1), 0, 7, [(0, 1, None), (1, 2, 7), (2, 2, 5), (0, 0, None)]),
                (1, (0, 1), 1, 7, [(0, 1, None), (1, 2, 5), (2, 2, 7), (0, 0, None)]),
                (0, (0,), 0, [], [(0, 1, None), (1, 1, None), (1, 2, 5), (0, 0, None)]),
                (0, (0,), 0, [1, 2], [(0, 2, 1), (2, 2, 2), (1, 1, None), (1, 2, 5), (0, 0, None)]),
                (0, (0,), 2, [1, 2], [(0, 1, None), (1, 2, 5), (1, 2, 1), (2, 2, 2), (0, 0, None)]),
                (0, (1,), 0, [], [(0, 1, None), (1, 2, 5), (0, 1, None)]),
                (0, (1,), 0, [3], [(0, 1, None), (1, 2, 5), (0, 2, 3)])]:
            self.assertEqual(put_element(schema, columns, node, path, index, part), [wanted])
        for node, path, index, wanted in [
                (1, (0, 1), 0, [(0, 1, None), (1, 1, None), (0, 0, None)]),
                (0, (0,), 0, [(0, 2, 5), (0, 0, None)]), (0, (0,), 1, [(0, 1, None), (0, 0, None)])]:
            self.assertEqual(take_element(schema, columns, node, path, index), [wanted])
        self.assertEqual(take_element(schema, [[(0, 1, None)]], 0, (0,), 0), [[(0, 0, None)]])

    def test_elements_of_many_schemas(self):
        met = set()
        for rng, tree, schema, table in drawn(131, 150):
            for node in nodes_with(tree, "["):
                places = places_of(tree, node, table)
                for path, part in rng.sample(places, min(4, len(places))):
                    new = ordered(tree_at(tree, node)[1], random_document(rng, tree_at(tree, node)[1]))
                    index = rng.choice([0, len(part), rng.randint(0, len(part))])
                    wanted = with_part(tree, table, node, path, part[:index] + [new] + part[index:])
                    self.assert_edit(tree, table, wanted, put_element, node=node, path=path, index=index, part=new)
                    met.add((len(part), index, way_above(tree, node)))
                    for index in range(len(part)):
                        wanted = with_part(tree, table, node, path, part[:index] + part[index + 1:])
                        self.assert_edit(tree, table, wanted, take_element, node=node, path=path, index=index)
        self.assertTrue({(0, 0, "l"), (3, 3, "l"), (2, 1, "m"), (1, 0, "ll"), (1, 1, "lm"), (0, 0, "ml")} <= met)

    def test_maybes_and_values_of_many_schemas(self):
        for rng, tree, schema, table in drawn(133, 150):
            for node in nodes_with(tree, "?v"):
                function = set_maybe if nodes_of(tree)[node][0] == "?" else set_value
                places = places_of(tree, node, table)
                for path, part in rng.sample(places, min(3, len(places))):
                    below = tree_at(tree, node)
                    parts = [part, ordered(below, random_document(rng, below))]
                    if function is set_maybe:
                        parts = parts + [(), (ordered(below[1], random_document(rng, below[1])),)]
                    for new in parts:
                        wanted = with_part(tree, table, node, path, new)
                        self.assert_edit(tree, table, wanted, function, node=node, path=path, part=new)

    def test_documents_of_many_schemas(self):
        for rng, tree, schema, table in drawn(135, 120):
            for index in sorted({0, len(table) // 2, len(table)}):
                new = ordered(tree, random_document(rng, tree))
                wanted = table[:index] + [new] + table[index:]
                self.assert_edit(tree, table, wanted, put_document, index=index, part=new)
            for index in range(len(table)):
                wanted = table[:index] + table[index + 1:]
                self.assert_edit(tree, table, wanted, take_document, index=index)

    def test_the_same_thing_again(self):
        for rng, tree, schema, table in drawn(137, 80):
            columns = columns_in(tree, table)
            for node in nodes_with(tree, "?v"):
                function = set_maybe if nodes_of(tree)[node][0] == "?" else set_value
                for path, part in places_of(tree, node, table):
                    self.assertEqual(function(schema, columns, node, path, part), columns)

    def test_names_in_any_sequence(self):
        for rng, tree, schema, table in drawn(139, 80):
            columns = columns_in(tree, table)
            document = ordered(tree, random_document(rng, tree))
            self.assertEqual(put_document(schema, columns, 0, turned(rng, document)), columns_in(tree, [document] + table))
            for node in nodes_with(tree, "["):
                for path, part in places_of(tree, node, table)[:2]:
                    new = random_document(rng, tree_at(tree, node)[1])
                    found = put_element(schema, columns, node, path, 0, turned(rng, new))
                    self.assertEqual(found, put_element(schema, columns, node, path, 0, new))

    def test_each_edit_and_the_one_that_undoes_it(self):
        for rng, tree, schema, table in drawn(141, 100):
            columns = columns_in(tree, table)
            for node in nodes_with(tree, "[?v"):
                sign = nodes_of(tree)[node][0]
                for path, part in places_of(tree, node, table)[:3]:
                    if sign == "[":
                        index = rng.randint(0, len(part))
                        more = put_element(schema, columns, node, path, index,
                                           random_document(rng, tree_at(tree, node)[1]))
                        self.assertEqual(take_element(schema, more, node, path, index), columns)
                        for index in range(len(part)):
                            less = take_element(schema, columns, node, path, index)
                            self.assertEqual(put_element(schema, less, node, path, index, part[index]), columns)
                    else:
                        function = set_maybe if sign == "?" else set_value
                        new = random_document(rng, tree_at(tree, node))
                        other = function(schema, columns, node, path, new)
                        self.assertEqual(function(schema, other, node, path, part), columns)
            for index in range(len(table)):
                less = take_document(schema, columns, index)
                self.assertEqual(put_document(schema, less, index, table[index]), columns)

    def test_edits_one_behind_the_other(self):
        for rng, tree, schema, table in drawn(143, 60):
            columns = columns_in(tree, table)
            for _ in range(15):
                columns, table = self.one_edit(rng, tree, schema, columns, table)
                self.assertEqual(columns, columns_in(tree, table))

    def one_edit(self, rng, tree, schema, columns, table):
        """The columns and the table behind an edit that is drawn."""
        node = rng.randrange(-1, len(nodes_of(tree)))
        places = places_of(tree, node, table)
        if node == -1 or not places or nodes_of(tree)[node][0] == "{":
            index = rng.randint(0, len(table))
            if index < len(table) and rng.random() < 0.5:
                return take_document(schema, columns, index), table[:index] + table[index + 1:]
            new = random_document(rng, tree)
            return put_document(schema, columns, index, new), table[:index] + [new] + table[index:]
        path, part = rng.choice(places)
        below, sign = tree_at(tree, node), nodes_of(tree)[node][0]
        if sign != "[":
            new = random_document(rng, below)
            function = set_maybe if sign == "?" else set_value
            return function(schema, columns, node, path, new), with_part(tree, table, node, path, new)
        index = rng.randint(0, len(part))
        if index < len(part) and rng.random() < 0.5:
            return (take_element(schema, columns, node, path, index),
                    with_part(tree, table, node, path, part[:index] + part[index + 1:]))
        new = random_document(rng, below[1])
        return (put_element(schema, columns, node, path, index, new),
                with_part(tree, table, node, path, part[:index] + [new] + part[index:]))

    def test_documents_down_to_none_and_up_again(self):
        schema, columns = Schema(LISTS), columns_in(tree_of(LISTS), [RECORD, BARE, RECORD])
        for left in [[RECORD, RECORD], [RECORD], []]:
            columns = take_document(schema, columns, 1 if len(left) == 2 else 0)
            self.assertEqual(columns, columns_in(tree_of(LISTS), left))
        self.assertEqual(columns, [[], [], [], []])
        self.assert_fault(("InvalidPath",), take_document, schema, columns, 0)
        for document in [BARE, RECORD]:
            columns = put_document(schema, columns, 0, document)
        self.assertEqual(columns, columns_in(tree_of(LISTS), [RECORD, BARE]))

    def test_limits_of_tables_and_columns_play_no_role(self):
        table = [dict(SECOND, name=number) for number in range(300)]
        columns = columns_in(tree_of(EXAMPLE), table)
        more = put_document(Schema(EXAMPLE), columns, 300, FIRST)
        self.assertEqual(more, columns_in(tree_of(EXAMPLE), table + [FIRST]))
        self.assertEqual(len(put_document(Schema(EXAMPLE), more, 7, FIRST)[0]), 302)
        self.assertEqual(take_document(Schema(EXAMPLE), more, 300), columns)
        long, schema = list(range(400)), Schema("[v]")
        columns = put_element(schema, columns_in(tree_of("[v]"), [long]), 0, (0,), 200, -1)
        self.assertEqual(columns, columns_in(tree_of("[v]"), [long[:200] + [-1] + long[200:]]))
        self.assertEqual(len(put_element(schema, columns, 0, (0,), 401, -1)[0]), 402)
        self.assertEqual(take_element(schema, columns, 0, (0,), 200), columns_in(tree_of("[v]"), [long]))
        self.assertEqual(stretch(schema, 0, columns[0], 1, (0, 400)), (400, 401))

    def test_eight_lists_in_one_another(self):
        text, rng = "{a:" + "[" * 8 + "v" + "]" * 8 + " b:v}", random.Random(145)
        tree = tree_of(text)
        for _ in range(40):
            table = [ordered(tree, random_document(rng, tree)) for _ in range(2)]
            for node in nodes_with(tree, "["):
                places = places_of(tree, node, table)
                if places:
                    path, part = rng.choice(places)
                    index, new = rng.randint(0, len(part)), random_document(rng, tree_at(tree, node)[1])
                    wanted = with_part(tree, table, node, path, part[:index] + [new] + part[index:])
                    self.assert_edit(tree, table, wanted, put_element, node=node, path=path, index=index, part=new)


class Stretches(Calls):

    def test_by_hand(self):
        schema, columns = Schema(EXAMPLE), COLUMNS
        for leaf, node, path, wanted in [
                (0, -1, (0,), (0, 1)), (0, 0, (1,), (1, 2)), (0, 1, (1,), (1, 2)), (1, -1, (0,), (0, 1)),
                (1, -1, (1,), (1, 3)), (1, 0, (1,), (1, 3)), (1, 2, (0,), (0, 1)), (1, 2, (1,), (1, 3)),
                (1, 3, (1, 0), (1, 2)), (1, 3, (1, 1), (2, 3)), (2, 4, (0,), (0, 1)), (2, 4, (1,), (1, 2)),
                (2, 5, (1,), (1, 2)), (3, 7, (1,), (1, 2)), (3, 8, (1, 0), (1, 2))]:
            found = self.result_of(stretch, schema=schema, leaf=leaf, column=columns[leaf], node=node, path=path)
            self.assertEqual(found, wanted, (leaf, node, path))

    def test_lists_in_lists_by_hand(self):
        column = [(0, 2, 1), (2, 2, 2), (2, 2, 3), (1, 2, 4), (1, 1, None), (1, 2, 5), (0, 0, None)]
        for node, path, wanted in [
                (-1, (0,), (0, 6)), (-1, (1,), (6, 7)), (0, (0,), (0, 6)), (0, (1,), (6, 7)), (1, (0, 0), (0, 3)),
                (1, (0, 1), (3, 4)), (1, (0, 2), (4, 5)), (1, (0, 3), (5, 6)), (2, (0, 0, 0), (0, 1)),
                (2, (0, 0, 2), (2, 3)), (2, (0, 3, 0), (5, 6))]:
            self.assertEqual(stretch(Schema("[[v]]"), 0, column, node, path), wanted)
        for node, path in [(1, (1, 0)), (2, (0, 2, 0)), (2, (0, 0, 3)), (1, (0, 4)), (0, (2,)), (2, (1, 0, 0))]:
            self.assert_fault(("InvalidPath",), stretch, Schema("[[v]]"), 0, column, node, path)

    def test_all_paths_of_many_schemas(self):
        told = []
        for rng, tree, schema, table in drawn(147, 100, 5, 3):
            columns = columns_in(tree, table)
            for leaf, column in enumerate(columns):
                line = [-1] + nodes_of(tree)[leaves_of(tree)[leaf]][1]
                for node in line:
                    lists = way_above(tree, node).count("l")
                    paths = [path for path, _ in places_of(tree, node, table)]
                    paths += [tuple(rng.randint(-1, 3) for _ in range(1 + lists)) for _ in range(10)]
                    paths += [path[:-1] for path in paths[:2]] + [path + (0,) for path in paths[:2]]
                    for path in paths:
                        wanted = stretch_in(tree, leaf, table, node, path)
                        told.append(wanted)
                        if wanted is None:
                            self.assert_fault(("InvalidPath",), stretch, schema, leaf, column, node, path)
                        else:
                            self.assertEqual(stretch(schema, leaf, column, node, path), wanted)
        self.assertGreater(told.count(None), 1000)
        self.assertGreater(len(told) - told.count(None), 1000)

    def test_what_leads_somewhere_in_the_edits(self):
        for rng, tree, schema, table in drawn(149, 80, 5, 3):
            columns = columns_in(tree, table)
            for node in nodes_with(tree, "[?v"):
                sign, below = nodes_of(tree)[node][0], tree_at(tree, node)
                good = [path for path, _ in places_of(tree, node, table)]
                lists = way_above(tree, node).count("l")
                for path in itertools.product(range(-1, 3), repeat=min(lists + 1, 4)):
                    wanted = None if path in good else ("InvalidPath",)
                    new = random_document(rng, below)
                    if sign == "[":
                        new = random_document(rng, below[1])
                        self.assert_fault(wanted, put_element, schema, columns, node, path, 0, new)
                    else:
                        function = set_maybe if sign == "?" else set_value
                        self.assert_fault(wanted, function, schema, columns, node, path, new)


class Errors(Calls):

    def setUp(self):
        self.schema = Schema(EXAMPLE)
        # Calls with a good node, path, index and part.
        self.good = [(put_element, 2, (1,), 1, 9), (take_element, 2, (1,), 1), (set_maybe, 4, (1,), ()),
                     (set_value, 1, (1,), 9)]

    def test_columns_that_are_none(self):
        for thing in OTHER_OBJECTS + [[], COLUMNS[:3], COLUMNS + [[]], tuple(COLUMNS), self.schema]:
            for function, *rest in self.good:
                self.assert_fault(("InvalidColumns", -1, -1), function, self.schema, thing, *rest)
                wrong = [99] + [None] * (len(rest) - 1)
                self.assert_fault(("InvalidColumns", -1, -1), function, self.schema, thing, *wrong)
            self.assert_fault(("InvalidColumns", -1, -1), put_document, self.schema, thing, 99, None)
            self.assert_fault(("InvalidColumns", -1, -1), take_document, self.schema, thing, 99)
        for function, *rest in self.good + [(put_document, 99, None), (take_document, -1)]:
            wrong = [[], [None], None, []]
            self.assert_fault(("InvalidColumns", 1, 0), function, self.schema, wrong, *rest)

    def test_columns_that_do_not_fit(self):
        rng, told = random.Random(151), []
        for tree in random_trees(60, seed=152):
            columns = mixed_columns(rng, tree)
            wanted = misfit_in(tree, columns)
            told.append(wanted)
            schema = Schema(text_of(tree))
            for function, *rest in [(put_element, 99, None, 99, None), (take_element, 99, None, 99),
                                    (set_maybe, 99, None, None), (set_value, -1, None, None)]:
                fault = ("NotFitting",) + wanted if wanted else ("InvalidNode",)
                self.assertEqual(fault_of(function, schema, columns, *rest), fault)
            fault = ("NotFitting",) + wanted if wanted else ("InvalidPath",)
            self.assertEqual(fault_of(put_document, schema, columns, 99, None), fault)
            self.assertEqual(fault_of(take_document, schema, columns, 99), fault)
        self.assertTrue(any(told))

    def test_nodes_of_other_kinds(self):
        for text in [EXAMPLE, DEEP, LISTS, TWELVE]:
            tree, schema = tree_of(text), Schema(text)
            columns = [[] for _ in range(len(schema))]
            for node in list(range(-3, len(nodes_of(tree)) + 2)) + [10 ** 59, 1 - 10 ** 60]:
                for function, sign, rest in [(put_element, "[", (0, None)), (take_element, "[", (0,)),
                                             (set_maybe, "?", (None,)), (set_value, "v", (None,))]:
                    wanted = ("InvalidPath",) if node in nodes_with(tree, sign) else ("InvalidNode",)
                    self.assert_fault(wanted, function, schema, columns, node, (0,), *rest)
                    self.assert_fault(wanted, function, schema, columns, node, None, *rest)

    def test_paths_that_lead_nowhere(self):
        wrong = [path for path in NO_PATHS if path != (0,) or type(path[0]) is bool]
        for path in wrong + [(1, 0), (0, 0), (1, 1)]:
            for function, node, _, *rest in self.good:
                self.assert_fault(("InvalidPath",), function, self.schema, COLUMNS, node, path, *rest)
                self.assert_fault(("InvalidPath",), function, self.schema, COLUMNS, node, path, *[None for _ in rest])
        for path in wrong + [(0,), (1,), (1, True), (1, False), (True, 0), (1, 2), (1, -1), (1, None), (1, 0, 0), (2, 0)]:
            self.assert_fault(("InvalidPath",), set_value, self.schema, COLUMNS, 3, path, 0)
            self.assert_fault(("InvalidPath",), set_value, self.schema, COLUMNS, 3, path, None)
        # Lists of other lengths, and open nodes above that do not go on.
        for node, path in [(7, (0,)), (8, (0, 0)), (6, (0,)), (3, (0, 0)), (8, (1, 1))]:
            function = {"[": put_element, "v": set_value}[nodes_of(tree_of(EXAMPLE))[node][0]]
            rest = (0, 1) if function is put_element else (1,)
            self.assert_fault(("InvalidPath",), function, self.schema, COLUMNS, node, path, *rest)

    def test_paths_of_a_stretch(self):
        for path in NO_PATHS + [(1, 0), (0, 0)]:
            if path != (0,) or type(path[0]) is bool:
                for leaf, node in [(0, -1), (0, 0), (0, 1), (1, 2), (2, 4), (3, 4)]:
                    self.assert_fault(("InvalidPath",), stretch, self.schema, leaf, COLUMNS[leaf], node, path)
        for leaf, node, path in [(1, 3, (0, 0)), (1, 3, (1, 2)), (1, 3, (1, -1)), (1, 3, (1,)), (1, 3, (1, True)),
                                 (2, 5, (0,)), (2, 6, (0,)), (3, 7, (0,)), (3, 8, (0, 0)), (3, 8, (1, 1)),
                                 (3, 8, (1, 0, 0)), (1, 3, (True, 0))]:
            self.assert_fault(("InvalidPath",), stretch, self.schema, leaf, COLUMNS[leaf], node, path)

    def test_indices(self):
        for index in [-1, 3, 4, 10 ** 59, 1 - 10 ** 60, True, False]:
            self.assert_fault(("InvalidPath",), put_element, self.schema, COLUMNS, 2, (1,), index, 9)
            self.assert_fault(("InvalidPath",), put_element, self.schema, COLUMNS, 2, (1,), index, None)
            self.assert_fault(("InvalidPath",), take_element, self.schema, COLUMNS, 2, (1,), index)
            self.assert_fault(("InvalidPath",), put_document, self.schema, COLUMNS, index, FIRST)
            self.assert_fault(("InvalidPath",), put_document, self.schema, COLUMNS, index, None)
            self.assert_fault(("InvalidPath",), take_document, self.schema, COLUMNS, index)
        self.assert_fault(("InvalidPath",), take_element, self.schema, COLUMNS, 2, (1,), 2)
        self.assert_fault(("InvalidPath",), take_element, self.schema, COLUMNS, 2, (0,), 0)
        self.assert_fault(("InvalidPath",), put_element, self.schema, COLUMNS, 2, (0,), 1, 9)
        self.assert_fault(("InvalidPath",), take_document, self.schema, COLUMNS, 2)
        self.assert_fault(None, put_element, self.schema, COLUMNS, 2, (1,), 2, 9)
        self.assert_fault(None, put_document, self.schema, COLUMNS, 2, FIRST)

    def test_parts_that_are_none(self):
        parts = {2: [value for value in OTHER_OBJECTS + [[1], (1,), self.schema, "1"] if type(value) is not int],
                 4: OTHER_OBJECTS + [[], [SECOND["at"][0]], SECOND["at"][0], SECOND["at"] * 2, ({"x": 5},),
                                     ({"x": 5, "y": [True]},), ({"x": 5, "y": (7,)},), ({"x": 5, "y": [], "z": 1},),
                                     ((),), self.schema]}
        parts[1] = parts[2]
        parts[4] = [part for part in parts[4] if part != ()]
        for function, node, path, *rest in [good for good in self.good if good[0] is not take_element]:
            for part in parts[node]:
                given = rest[:-1] + [part]
                self.assert_fault(("InvalidPart",), function, self.schema, COLUMNS, node, path, *given)
        for part in OTHER_OBJECTS + [[FIRST], (FIRST,), dict(FIRST, at=None), dict(FIRST, more=1), dict(FIRST, name=True),
                                     {"name": 1}, dict(SECOND, tags=(1, 2)), dict(SECOND, tags=[1, None]), self.schema]:
            for index in range(3):
                self.assert_fault(("InvalidPart",), put_document, self.schema, COLUMNS, index, part)
        self.assert_fault(("InvalidPart",), put_element, Schema("[[v]]"), [[(0, 0, None)]], 0, (0,), 0, 5)
        self.assert_fault(("InvalidPart",), put_element, Schema("[?v]"), [[(0, 0, None)]], 0, (0,), 0, 5)
        self.assert_fault(None, put_element, Schema("[?v]"), [[(0, 0, None)]], 0, (0,), 0, ())

    def test_a_part_that_is_deep(self):
        part = 0
        for _ in range(28):
            part = [part]
        self.assert_fault(("InvalidPart",), put_document, self.schema, COLUMNS, 0, part)
        self.assert_fault(("InvalidPart",), put_element, self.schema, COLUMNS, 2, (1,), 0, part)
        self.assert_fault(("InvalidPath",), put_element, self.schema, COLUMNS, 2, tuple(part), 0, part)

    def test_which_error_of_a_stretch_comes_first(self):
        for leaf in [-1, 4, 10 ** 59]:
            self.assert_fault(("InvalidLeaf",), stretch, self.schema, leaf, None, 99, None)
        for leaf in range(4):
            for thing in OTHER_OBJECTS + [tuple(COLUMNS[leaf]), self.schema]:
                self.assert_fault(("InvalidColumns", leaf, -1), stretch, self.schema, leaf, thing, 99, None)
            self.assert_fault(("InvalidColumns", leaf, 1), stretch, self.schema, leaf, COLUMNS[leaf][:1] + [()], 99, None)
            for node in list(range(-3, 11)) + [10 ** 59, 1 - 10 ** 60]:
                under = node == -1 or 0 <= node <= 8 and leaf in leaves_under(tree_of(EXAMPLE), node)
                wanted = ("InvalidPath",) if under else ("InvalidNode",)
                self.assert_fault(wanted, stretch, self.schema, leaf, COLUMNS[leaf], node, None)
                self.assert_fault(wanted, stretch, self.schema, leaf, [], node, (0,))

    def test_an_edit_of_what_split_returns(self):
        schema = Schema(LISTS)
        columns = split(schema, [RECORD, BARE])
        before = [list(column) for column in columns]
        found = put_document(schema, columns, 1, BARE)
        found[0].clear()
        self.assertEqual(columns, before)
        # A part that is put in and changed later has no effect.
        part = {"b": 7, "c": [8], "d": ()}
        found = put_element(schema, columns, 1, (1,), 0, part)
        part["c"].append(9)
        self.assertEqual(joined(schema, found), [RECORD, dict(BARE, a=[{"b": 7, "c": [8], "d": ()}])])

    def test_functions_stand_in_their_file(self):
        for named in [put_element, take_element, set_maybe, set_value, put_document, take_document, stretch]:
            self.assertEqual(named.__module__, "levelcolumns.edits")

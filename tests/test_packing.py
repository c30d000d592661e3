"""Point 12: leaves that carry the levels, and packed columns."""

import copy
import itertools
import random

from levelcolumns.fitting import first_misfit
from levelcolumns.packing import carriers, packed, unpacked
from levelcolumns.schemas import Schema
from tests.samples import (DEEP, EXAMPLE, OTHER_OBJECTS, TWELVE, columns_in, leaves_of, mixed_columns, nodes_of,
                           random_document, random_trees, text_of, tree_of)
from tests.test_columns import COLUMNS, FIRST, SECOND
from tests.test_fitting import misfit_in
from tests.tools import Calls, fault_of

PACKED = (2, [[(0, 0), (0, 1), (1, 1)], [(0, 0), (0, 2)]], [[1, 2], [1, 2], [5], [7]])

NONE = ("InvalidColumns", -1, -1)


def carriers_in(tree):
    found = nodes_of(tree)
    opened = [node for node, (sign, _) in enumerate(found) if sign in "?["]
    inner = [node for node in opened if not any(node in found[other][1][:-1] for other in opened)]
    return [min(leaf for leaf, place in enumerate(leaves_of(tree)) if node in found[place][1]) for node in inner]


def packed_in(tree, table):
    columns = columns_in(tree, table)
    return (len(table), [[entry[:2] for entry in columns[leaf]] for leaf in carriers_in(tree)],
            [[entry[2] for entry in column if entry[2] is not None] for column in columns])


def small_parts(tree):
    """Some parts of documents with lists of at most two, and with 0 as each value."""
    if tree[0] == "v":
        return [0]
    if tree[0] == "?":
        return [()] + [(inner,) for inner in small_parts(tree[1])]
    if tree[0] == "[":
        inner = small_parts(tree[1])
        return [list(parts) for many in range(3) for parts in itertools.product(inner, repeat=many)]
    names = [name for name, _ in tree[1]]
    return [dict(zip(names, parts)) for parts in itertools.product(*[small_parts(below) for _, below in tree[1]])]


class Carriers(Calls):

    def test_by_hand(self):
        for text, wanted in [
                (EXAMPLE, [1, 3]), (TWELVE, []), ("v", []), ("{a:v b:{c:v}}", []), ("[v]", [0]), ("?v", [0]),
                ("?[[v]]", [0]), ("?{a:v b:v}", [0]), ("{a:v b:?{c:v d:v}}", [1]), ("[{a:v b:?v c:[v] d:v}]", [1, 2]),
                ("{a:[{b:v c:v}] d:?v e:v}", [0, 2]), ("?{a:{b:v c:v} d:{e:v f:?v}}", [3]), (DEEP, [0, 2, 3, 5])]:
            self.assertEqual(self.result_of(carriers, schema=Schema(text)), wanted, text)

    def test_many_schemas(self):
        for tree in random_trees(200, seed=81):
            self.assertEqual(self.result_of(carriers, schema=Schema(text_of(tree))), carriers_in(tree))


class Packed(Calls):

    def test_the_example_of_the_document(self):
        self.assertEqual(self.result_of(packed, schema=Schema(EXAMPLE), columns=COLUMNS), PACKED)
        self.assertEqual(self.result_of(unpacked, schema=Schema(EXAMPLE), thing=PACKED), COLUMNS)

    def test_small_columns_by_hand(self):
        for text, columns, wanted in [
                ("v", [[(0, 0, 5), (0, 0, 6)]], (2, [], [[5, 6]])),
                ("{a:v b:v}", [[(0, 0, 5)], [(0, 0, 6)]], (1, [], [[5], [6]])),
                ("?v", [[(0, 0, None), (0, 1, 7)]], (2, [[(0, 0), (0, 1)]], [[7]])),
                ("?v", [[(0, 0, None)]], (1, [[(0, 0)]], [[]])),
                ("{a:v b:[v]}", [[(0, 0, 1)], [(0, 1, 2), (1, 1, 3)]], (1, [[(0, 1), (1, 1)]], [[1], [2, 3]])),
                ("[{a:v b:?v}]", [[(0, 1, 4), (1, 1, 5)], [(0, 1, None), (1, 2, 6)]],
                 (1, [[(0, 1), (1, 2)]], [[4, 5], [6]]))]:
            self.assertEqual(self.result_of(packed, schema=Schema(text), columns=columns), wanted)
            self.assertEqual(self.result_of(unpacked, schema=Schema(text), thing=wanted), columns)

    def test_tables_without_documents(self):
        for text in [EXAMPLE, TWELVE, DEEP, "v", "[v]"]:
            schema = Schema(text)
            columns = [[] for _ in range(len(schema))]
            thing = (0, [[] for _ in carriers_in(tree_of(text))], columns)
            self.assertEqual(self.result_of(packed, schema=schema, columns=columns), thing)
            self.assertEqual(self.result_of(unpacked, schema=schema, thing=thing), columns)

    def test_columns_of_many_tables(self):
        rng = random.Random(83)
        for tree in random_trees(200, seed=84):
            schema, table = Schema(text_of(tree)), [random_document(rng, tree) for _ in range(rng.randint(0, 4))]
            columns = columns_in(tree, table)
            thing = self.result_of(packed, schema=schema, columns=columns)
            self.assertEqual(thing, packed_in(tree, table))
            self.assertEqual(self.result_of(unpacked, schema=schema, thing=thing), columns)

    def test_three_hundred_documents(self):
        table = [dict(SECOND, name=number) for number in range(300)]
        columns = columns_in(tree_of(EXAMPLE), table)
        thing = packed(Schema(EXAMPLE), columns)
        self.assertEqual(thing, packed_in(tree_of(EXAMPLE), table))
        self.assertEqual(unpacked(Schema(EXAMPLE), thing), columns)

    def test_errors(self):
        schema = Schema(EXAMPLE)
        for thing in OTHER_OBJECTS + [[], COLUMNS[:3], COLUMNS + [[]], tuple(COLUMNS), schema]:
            self.assert_fault(NONE, packed, schema, thing)
        self.assert_fault(("InvalidColumns", 1, 0), packed, schema, [[], [None], None, []])
        self.assert_fault(("InvalidColumns", 3, -1), packed, schema, [[], COLUMNS[1], [], ()])
        rng, told = random.Random(85), []
        for tree in random_trees(100, seed=86):
            columns = mixed_columns(rng, tree)
            wanted = misfit_in(tree, columns)
            told.append(wanted)
            fault = wanted and ("NotFitting",) + wanted
            self.assertEqual(fault_of(packed, Schema(text_of(tree)), columns), fault)
        self.assertTrue(any(told))


class NoPackedForm(Calls):

    def assert_none(self, schema, thing):
        self.assert_fault(NONE, unpacked, schema, thing)

    def test_any_objects(self):
        for text in [EXAMPLE, "v", "[v]", TWELVE]:
            schema = Schema(text)
            for thing in OTHER_OBJECTS + [[], list(PACKED), PACKED[:2], PACKED + (0,), schema, (schema,) * 3,
                                          COLUMNS, {"0": 2, "1": [], "2": []}]:
                self.assert_none(schema, thing)

    def test_each_part_of_another_kind(self):
        schema = Schema(EXAMPLE)
        documents, levels, values = PACKED
        for other in OTHER_OBJECTS + [schema, 3, 10 ** 59, 1 - 10 ** 60, [], [[]], [[]] * 2, [[]] * 4, [None] * 2,
                                      [None] * 4, [()] * 4, [(), ()]]:
            self.assert_none(schema, (other, levels, values))
            self.assert_none(schema, (documents, other, values))
            self.assert_none(schema, (documents, levels, other))
            for at in range(2):
                wrong = [other if at == place else part for place, part in enumerate(levels)]
                self.assert_none(schema, (documents, wrong, values))
            for at in range(4):
                wrong = [other if at == place else part for place, part in enumerate(values)]
                self.assert_none(schema, (documents, levels, wrong))

    def test_what_stands_in_the_lists(self):
        schema = Schema(EXAMPLE)
        documents, levels, values = PACKED
        others = OTHER_OBJECTS + [schema, [0, 0], (0, 0, None), (0,), (False, 0), (0, False), (0, True), (True, 1),
                                  (None, 0), ("0", 0), (0, "0"), (-1, 0), (2, 1), (0, -1), (0, 3), (0, 10 ** 59)]
        for at, part in enumerate(levels):
            for place, other in itertools.product(range(len(part)), others):
                wrong = copy.deepcopy(levels)
                wrong[at][place] = other
                if repr(wrong) != repr(levels):
                    self.assert_none(schema, (documents, wrong, values))
        for at, part in enumerate(values):
            for place, other in itertools.product(range(len(part)), [True, False, None, "1", (1,), [1], {}, schema]):
                wrong = copy.deepcopy(values)
                wrong[at][place] = other
                self.assert_none(schema, (documents, levels, wrong))

    def test_too_long_and_too_short(self):
        schema = Schema(EXAMPLE)
        documents, levels, values = PACKED
        for wrong in [levels[:1], levels + [[]], levels + [levels[0]], [levels[0]] + levels, levels[::-1]]:
            self.assert_none(schema, (documents, wrong, values))
        for wrong in [values[:3], values + [[]], values + [[7]]]:
            self.assert_none(schema, (documents, levels, wrong))
        for at in range(4):
            for part in [values[at] + [0], values[at][:-1], []]:
                self.assert_none(schema, (documents, levels, values[:at] + [part] + values[at + 1:]))
        for at in range(2):
            for part in [levels[at] + [(0, 0)], levels[at][:-1], levels[at][1:], []]:
                self.assert_none(schema, (documents, levels[:at] + [part] + levels[at + 1:], values))

    def test_another_number_of_documents(self):
        for text, table in [(EXAMPLE, [FIRST, SECOND]), ("v", [1, 2]), (TWELVE, []), ("[v]", [[], [1, 2]])]:
            schema, (documents, levels, values) = Schema(text), packed_in(tree_of(text), table)
            self.assertEqual(first_misfit(schema, unpacked(schema, (documents, levels, values))), None)
            for other in [-1, 0, 1, 2, 3, 10 ** 59, True, False, None]:
                if other != documents or other is True or other is False:
                    self.assert_none(schema, (other, levels, values))

    def test_levels_that_do_not_agree(self):
        schema = Schema("[{a:?v b:[v]}]")
        good = (1, [[(0, 2), (1, 1)], [(0, 1), (1, 2), (2, 2)]], [[5], [6, 7]])
        self.assertEqual(unpacked(schema, good), [[(0, 2, 5), (1, 1, None)], [(0, 1, None), (1, 2, 6), (2, 2, 7)]])
        self.assert_none(schema, (1, [[(0, 2)], good[1][1]], [[5], [6, 7]]))
        self.assert_none(schema, (1, [[(0, 2), (1, 1), (1, 1)], good[1][1]], [[5], [6, 7]]))
        self.assert_none(schema, (1, [[(0, 0)], good[1][1]], [[], [6, 7]]))
        # A leaf between the two that carry levels, and that is told by the list alone.
        schema = Schema("[{a:?v b:v c:?v}]")
        self.assert_none(schema, (1, [[(0, 1), (1, 1)], [(0, 1)]], [[], [5, 6], []]))
        self.assert_none(schema, (1, [[(0, 1)], [(0, 1), (1, 1)]], [[], [5], []]))

    def test_all_small_objects(self):
        for text in ["v", "?v", "[v]", "{a:v b:?v}", "{a:?v b:[v]}", "?{a:v b:?v}"]:
            schema, tree = Schema(text), tree_of(text)
            tables = [list(table) for many in range(3) for table in itertools.product(small_parts(tree), repeat=many)]
            forms = {repr(packed_in(tree, table)): columns_in(tree, table) for table in tables}
            pairs = list(itertools.product(range(2), range(3)))
            rows = [list(row) for many in range(3) for row in itertools.product(pairs, repeat=many)]
            all_levels = list(itertools.product(rows, repeat=len(carriers(schema))))
            if len(all_levels) > 1000:
                all_levels = random.Random(87).sample(all_levels, 400)
            counts = list(itertools.product(range(3), repeat=len(schema)))
            found = 0
            for documents, levels, many in itertools.product(range(3), all_levels, counts):
                thing = (documents, list(levels), [[0] * length for length in many])
                fault = fault_of(unpacked, schema, thing)
                if repr(thing) in forms:
                    self.assertEqual(unpacked(schema, thing), forms[repr(thing)])
                    found += 1
                else:
                    self.assertEqual(fault, NONE, (text, thing))
            self.assertGreater(found, 2)

    def test_functions_stand_in_their_file(self):
        for named in [carriers, packed, unpacked]:
            self.assertEqual(named.__module__, "levelcolumns.packing")

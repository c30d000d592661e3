"""Point 19: pages, their numbers, and which pages a test must read."""

import itertools
import random

from levelcolumns.columns import table_of
from levelcolumns.edits import put_element
from levelcolumns.masks import mask
from levelcolumns.pages import (bits_by_pages, cut_pages, page_numbers, page_state, parted_pages,
                                shows_parted_pages)
from levelcolumns.schemas import Schema
from tests.edited import drawn
from tests.samples import EXAMPLE, OTHER_OBJECTS, column_in, leaves_of, tree_of
from tests.test_columns import COLUMNS, columns_with, text_with
from tests.tools import Calls

# All ways of up to three open nodes, and how many entries the small pages of each have at most.
WAYS = [("", 4), ("m", 4), ("l", 4), ("mm", 4), ("ml", 4), ("lm", 4), ("ll", 4), ("mmm", 3), ("mml", 4), ("mlm", 3),
        ("lmm", 3), ("mll", 3), ("lml", 3), ("llm", 3), ("lll", 3)]

NO_TESTS = OTHER_OBJECTS + [
    ["some", 1, ">", 1], ("any", 1, ">", 1), ("some", 0, ">", 1), ("some", 2, ">", 1), ("some", -1, ">", 1),
    ("some", True, ">", 1), ("some", None, ">", 1), ("some", "1", ">", 1), ("some", 1, ">=", 1), ("some", 1, "", 1),
    ("some", 1, None, 1), ("some", 1, ">", True), ("some", 1, ">", None), ("some", 1, ">", "1"), ("some", 1, ">"),
    ("some", 1, ">", 1, 1), ("not", ("some", 1, ">", 1)), ("both", ("some", 1, ">", 1), ("some", 1, ">", 1)),
    ("either", ("some", 1, ">", 1), ("some", 1, ">", 1)), (("some", 1, ">", 1),), [("some", 1, ">", 1)], Schema("v")]


def documents_of(column):
    """The column cut before each entry that begins a document."""
    found = []
    for entry in column:
        if entry[0] == 0:
            found.append([])
        found[-1].append(entry)
    return found


def numbers_in(column):
    values = [value for _, _, value in column if value is not None]
    return (len(documents_of(column)), len(column), len(values), min(values) if values else None,
            max(values) if values else None)


def holds_of(values, test):
    word, _, sign, number = test
    told = [{"<": value < number, "=": value == number, ">": value > number}[sign] for value in values]
    return True in told if word == "some" else False not in told


def bits_in(column, test):
    return [holds_of([value for _, _, value in document if value is not None], test) for document in documents_of(column)]


def node_of_leaf(way):
    """The node of the only leaf of the text that a way has: the nodes are those above it, in a row."""
    return len(way)


def small_pages(way, most, values):
    """All pages with at most so many entries, each value one of these."""
    for column in columns_with(way, most):
        if column:
            places = [at for at, entry in enumerate(column) if entry[2] is not None]
            for chosen in itertools.product(values, repeat=len(places)):
                page = list(column)
                for at, value in zip(places, chosen):
                    page[at] = (page[at][0], page[at][1], value)
                yield page


def grouped(way, most, values):
    """The small pages by their numbers, each as the tuple of the values of its documents."""
    found = {}
    for page in small_pages(way, most, values):
        rows = tuple(tuple(value for _, _, value in document if value is not None) for document in documents_of(page))
        found.setdefault(numbers_in(page), set()).add(rows)
    return found


def state_in(pages, test):
    """The state, from the values of the documents of all pages."""
    told = {holds_of(values, test) for rows in pages for values in rows}
    return "read" if len(told) == 2 else "yes" if True in told else "no"


class Numbers(Calls):

    def test_by_hand(self):
        for leaf, wanted in [(0, (2, 2, 2, 1, 2)), (1, (2, 3, 2, 1, 2)), (2, (2, 2, 1, 5, 5)), (3, (2, 2, 1, 7, 7))]:
            found = self.result_of(page_numbers, schema=Schema(EXAMPLE), leaf=leaf, column=COLUMNS[leaf])
            self.assertEqual(found, wanted)
        self.assertEqual(page_numbers(Schema("[v]"), 0, [(0, 0, None)]), (1, 1, 0, None, None))
        self.assertEqual(page_numbers(Schema("[v]"), 0, [(0, 1, -3), (1, 1, 10 ** 59), (0, 0, None)]),
                         (2, 3, 2, -3, 10 ** 59))

    def test_columns_and_pages_of_many_schemas(self):
        for rng, tree, schema, table in drawn(201, 150, most_documents=7):
            leaf = rng.randrange(len(schema))
            column = column_in(tree, leaf, table)
            if table:
                self.assertEqual(self.result_of(page_numbers, schema=schema, leaf=leaf, column=column), numbers_in(column))
            for most in [1, 2, 3, len(table), len(table) + 1, 10 ** 59]:
                if most == 0:
                    continue
                found = self.result_of(cut_pages, schema=schema, leaf=leaf, column=column, most=most)
                wanted = [column_in(tree, leaf, table[at:at + most]) for at in range(0, len(table), min(most, 99))]
                self.assertEqual(found, wanted)
                for page in found:
                    numbers = page_numbers(schema, leaf, page)
                    self.assertEqual(numbers, numbers_in(page))
                    if numbers[1] <= 400:
                        test = ("some", leaves_of(tree)[leaf], "<", 1)
                        self.assertIn(page_state(schema, leaf, numbers, test), ["yes", "no", "read"])

    def test_errors(self):
        schema = Schema(EXAMPLE)
        for leaf in [-1, 4, 10 ** 59]:
            self.assert_fault(("InvalidLeaf",), page_numbers, schema, leaf, [])
            self.assert_fault(("InvalidLeaf",), cut_pages, schema, leaf, None, 0)
        for leaf in range(4):
            for thing in OTHER_OBJECTS + [tuple(COLUMNS[leaf]), schema]:
                self.assert_fault(("InvalidColumns", leaf, -1), page_numbers, schema, leaf, thing)
                self.assert_fault(("InvalidColumns", leaf, -1), cut_pages, schema, leaf, thing, 0)
            self.assert_fault(("InvalidColumns", leaf, 0), page_numbers, schema, leaf, [None])
            self.assert_fault(("InvalidColumns", leaf, 1), cut_pages, schema, leaf, COLUMNS[leaf][:1] + [None], 0)
            self.assert_fault(("InvalidPage",), page_numbers, schema, leaf, [])
            self.assertEqual(cut_pages(schema, leaf, [], 1), [])
            for most in [0, -1, 1 - 10 ** 60, True, False]:
                for column in [[], COLUMNS[leaf]]:
                    self.assert_fault(("InvalidNumber",), cut_pages, schema, leaf, column, most)


class ValidNumbers(Calls):

    def test_against_all_small_pages(self):
        for way, most in WAYS:
            schema, found = Schema(text_with(way)), grouped(way, most, [0, 1, 2])
            test = ("some", node_of_leaf(way), ">", 1)
            limits = [None, 0, 1, 2]
            for numbers in itertools.product(range(-1, most + 1), range(-1, most + 1), range(-1, most + 1), limits, limits):
                wanted = None if numbers in found else ("InvalidPage",)
                self.assert_fault(wanted, page_state, schema, 0, numbers, test)
                if wanted:
                    self.assert_fault(wanted, parted_pages, schema, 0, numbers, None)

    def test_rules_by_hand(self):
        for text, numbers, good in [
                ("v", (3, 3, 3, 1, 2), True), ("v", (3, 3, 2, 1, 2), False), ("v", (3, 4, 4, 1, 2), False),
                ("?v", (3, 3, 0, None, None), True), ("?v", (3, 3, 3, 1, 1), True), ("?v", (3, 4, 3, 1, 1), False),
                ("[v]", (3, 3, 0, None, None), True), ("[v]", (3, 9, 9, 0, 5), True), ("[v]", (3, 9, 7, 0, 5), True),
                ("[v]", (3, 9, 6, 0, 5), False), ("[v]", (3, 9, 5, 0, 5), False), ("[v]", (3, 4, 1, 5, 5), False),
                ("?[v]", (3, 4, 2, 5, 5), True), ("[?v]", (3, 9, 0, None, None), True), ("[[v]]", (3, 9, 1, 4, 4), True),
                ("[[v]]", (3, 2, 1, 4, 4), False), ("[?v]", (1, 1, 2, 4, 4), False), ("v", (0, 0, 0, None, None), False),
                ("v", (1, 1, 1, 1, 2), False), ("v", (2, 2, 2, 2, 1), False), ("v", (2, 2, 2, None, None), False),
                ("?v", (2, 2, 0, 1, 1), False), ("?v", (2, 2, 1, 1, None), False), ("?v", (2, 2, 1, None, 1), False)]:
            schema = Schema(text)
            test = ("some", schema.nodes_of_leaves[0], "=", 1)
            self.assert_fault(None if good else ("InvalidPage",), page_state, schema, 0, numbers, test)

    def test_four_hundred_entries_and_one_more(self):
        for text, numbers in [("v", (400, 400, 400, 1, 2)), ("?v", (400, 400, 0, None, None)), ("[v]", (1, 400, 400, 1, 2)),
                              ("[v]", (400, 400, 0, None, None)), ("[[v]]", (3, 400, 7, 1, 2))]:
            schema = Schema(text)
            test = ("some", schema.nodes_of_leaves[0], "=", 1)
            documents, entries, values, least, greatest = numbers
            self.assert_fault(None, page_state, schema, 0, numbers, test)
            if text == "[v]" and values:
                more = (1, 401, 401, 1, 2)
            elif text == "[[v]]":
                more = (3, 401, 7, 1, 2)
            else:
                more = (401, 401, 401 if values else 0, least, greatest)
            for function in [page_state, parted_pages]:
                self.assert_fault(("InvalidPage",), function, schema, 0, more, test)
            self.assert_fault(("InvalidPage",), shows_parted_pages, schema, 0, more, test, None)
        # The numbers of a longer page are returned, but refused where numbers are passed.
        schema = Schema("[v]")
        column = put_element(schema, [[(0, 1, 0)] + [(1, 1, number) for number in range(1, 400)]], 0, (0,), 0, 7)[0]
        numbers = page_numbers(schema, 0, column)
        self.assertEqual(numbers, (1, 401, 401, 0, 399))
        self.assert_fault(("InvalidPage",), page_state, schema, 0, numbers, ("some", 1, "=", 1))
        self.assertEqual(bits_by_pages(schema, 0, [column], ("some", 1, "<", 9)), ([True], []))
        self.assertEqual(bits_by_pages(schema, 0, [column], ("some", 1, "=", 9)), ([True], [0]))

    def test_objects_that_are_no_numbers(self):
        schema, test = Schema("[v]"), ("some", 1, ">", 1)
        good = (2, 3, 2, 1, 2)
        self.assert_fault(None, page_state, schema, 0, good, test)
        wrong = OTHER_OBJECTS + [list(good), good[:4], good + (2,), (good,), {"0": 2}, schema]
        for place in range(5):
            for other in [True, False, None, "2", (2,), [2], schema, 10 ** 59, -10 ** 59]:
                if (place, other) not in [(4, 10 ** 59), (3, -10 ** 59)]:
                    wrong.append(good[:place] + (other,) + good[place + 1:])
        for numbers in wrong:
            for function, rest in [(page_state, (test,)), (page_state, (None,)), (parted_pages, (test,)),
                                   (parted_pages, (None,)), (shows_parted_pages, (test, None)),
                                   (shows_parted_pages, (None, None))]:
                self.assert_fault(("InvalidPage",), function, schema, 0, numbers, *rest)
        self.assert_fault(None, page_state, schema, 0, (2, 3, 2, 1 - 10 ** 60, 10 ** 60 - 1), test)
        for numbers in [(1, 1, 1, True, True), (1, 1, 1, 1, True), (True, 1, 1, 1, 1), (1, True, 1, 1, 1)]:
            self.assert_fault(("InvalidPage",), page_state, schema, 0, numbers, test)


class States(Calls):

    def assert_state(self, text, numbers, test, wanted):
        found = self.result_of(page_state, schema=Schema(text), leaf=0, numbers=numbers, test=test)
        self.assertEqual(found, wanted, (text, numbers, test))

    def test_the_three_examples_of_the_document(self):
        self.assert_state("[v]", (2, 3, 2, 1, 2), ("some", 1, ">", 1), "read")
        self.assert_state("[v]", (2, 3, 2, 1, 2), ("some", 1, ">", 5), "no")
        self.assert_state("[v]", (2, 3, 2, 1, 2), ("all", 1, ">", 0), "yes")

    def test_more_by_hand(self):
        for text, numbers, test, wanted in [
                # No values at all.
                ("?v", (3, 3, 0, None, None), ("some", 1, ">", 1), "no"),
                ("?v", (3, 3, 0, None, None), ("all", 1, ">", 1), "yes"),
                # Each document has a value between the limits.
                ("v", (3, 3, 3, 1, 5), ("some", 0, ">", 0), "yes"), ("v", (3, 3, 3, 1, 5), ("all", 0, "<", 6), "yes"),
                ("v", (3, 3, 3, 1, 5), ("some", 0, "=", 3), "read"), ("v", (2, 2, 2, 1, 5), ("some", 0, "=", 3), "no"),
                ("v", (2, 2, 2, 1, 5), ("some", 0, "=", 5), "read"), ("v", (1, 1, 1, 5, 5), ("some", 0, "=", 5), "yes"),
                # One document has all of the values, so that the limits are in it.
                ("[v]", (1, 3, 3, 1, 5), ("some", 1, "=", 1), "yes"), ("[v]", (1, 3, 3, 1, 5), ("all", 1, "=", 1), "no"),
                ("[v]", (1, 3, 3, 1, 5), ("some", 1, "=", 3), "read"), ("[v]", (1, 2, 2, 1, 5), ("some", 1, "=", 3), "no"),
                ("[v]", (1, 3, 3, 1, 5), ("all", 1, ">", 1), "no"), ("[v]", (1, 3, 3, 1, 5), ("some", 1, ">", 4), "yes"),
                # As many documents as values, and none without one.
                ("[v]", (2, 2, 2, 1, 5), ("all", 1, ">", 0), "yes"), ("[v]", (2, 2, 2, 1, 5), ("some", 1, ">", 0), "yes"),
                ("[v]", (2, 3, 2, 1, 5), ("some", 1, ">", 0), "read"), ("[?v]", (2, 4, 3, 1, 5), ("some", 2, ">", 0), "read"),
                ("[?v]", (1, 4, 3, 1, 5), ("some", 2, ">", 0), "yes"), ("[?v]", (1, 4, 3, 1, 5), ("all", 2, ">", 1), "no")]:
            self.assert_state(text, numbers, test, wanted)

    def test_against_all_small_pages(self):
        told = set()
        for way, most in WAYS:
            schema = Schema(text_with(way))
            for numbers, pages in grouped(way, most, [0, 1, 2]).items():
                # With a value of its own on both sides and between the limits.
                for word, sign, number in itertools.product(["some", "all"], "<=>", range(-1, 4)):
                    test = (word, node_of_leaf(way), sign, number)
                    wanted = state_in(pages, test)
                    self.assertEqual(page_state(schema, 0, numbers, test), wanted, (way, numbers, test))
                    told.add((way, word, wanted))
                    self.check_parted(schema, numbers, test, wanted)
        self.assertEqual(len(told), len(WAYS) * 6)

    def check_parted(self, schema, numbers, test, state):
        thing = parted_pages(schema, 0, numbers, test)
        if state != "read":
            self.assertIsNone(thing)
            return
        self.assertIs(type(thing), tuple)
        self.assertEqual([numbers_in(page) for page in thing], [numbers, numbers])
        self.assertNotEqual(bits_in(thing[0], test), bits_in(thing[1], test))
        self.assertTrue(shows_parted_pages(schema, 0, numbers, test, thing))
        self.assertFalse(shows_parted_pages(schema, 0, numbers, test, (thing[0], list(thing[0]))))
        for page in thing:
            table_of(schema, 0, page)

    def test_pages_of_drawn_columns(self):
        told = []
        for rng, tree, schema, table in drawn(203, 200, 4, 6):
            leaf = rng.randrange(len(schema))
            node = leaves_of(tree)[leaf]
            for page in cut_pages(schema, leaf, column_in(tree, leaf, table), rng.randint(1, 4)):
                for _ in range(4):
                    test = (rng.choice(["some", "all"]), node, rng.choice("<=>"), rng.choice([-2, -1, 0, 1, 2, 7, 8]))
                    state = page_state(schema, leaf, numbers_in(page), test)
                    told.append(state)
                    if state != "read":
                        self.assertEqual(bits_in(page, test), [state == "yes"] * len(documents_of(page)))
                    else:
                        thing = self.result_of(parted_pages, schema=schema, leaf=leaf, numbers=numbers_in(page), test=test)
                        self.assertTrue(self.result_of(shows_parted_pages, schema=schema, leaf=leaf,
                                                       numbers=numbers_in(page), test=test, thing=thing))
        self.assertEqual(set(told), {"yes", "no", "read"})

    def test_long_pages(self):
        rng = random.Random(205)
        for way in ["", "m", "l", "ml", "lm", "ll", "lml"]:
            schema, node = Schema(text_with(way)), node_of_leaf(way)
            for _ in range(60):
                documents = rng.randint(1, 400)
                entries = rng.randint(documents, 400) if "l" in way else documents
                values = entries if way == "" else rng.randint(0, entries)
                numbers = (documents, entries, values) + ((-5, 9) if values > 1 else (4, 4) if values else (None, None))
                test = (rng.choice(["some", "all"]), node, rng.choice("<=>"), rng.randint(-7, 11))
                try:
                    state = page_state(schema, 0, numbers, test)
                except ValueError:
                    self.assertTrue(way in ["l", "ml"])
                    continue
                self.check_parted(schema, numbers, test, state)


class Shows(Calls):

    def test_by_hand(self):
        schema, numbers, test = Schema("[v]"), (2, 3, 2, 1, 2), ("some", 1, ">", 1)
        both, last, first = [(0, 1, 1), (1, 1, 2), (0, 0, None)], [(0, 0, None), (0, 1, 1), (1, 1, 2)], [(0, 1, 2), (1, 1, 1),
                                                                                                      (0, 0, None)]
        for thing, wanted in [
                ((both, last), True), ((last, both), True), ((both, first), False), ((first, last), True),
                ((both, both), False), ([both, last], False), ((both,), False), ((both, last, both), False), ((), False),
                ((both, None), False), ((None, last), False), ((both, []), False), (([], []), False),
                ((both, [(0, 1, 1), (0, 1, 2)]), False), ((both, [(0, 0, None), (0, 1, 2), (1, 1, 2)]), False),
                ((both, [(0, 0, None), (0, 1, 1), (1, 1, 3)]), False), ((both, tuple(last)), False),
                ((both, [(0, 0, None), (0, 1, 1), (0, 1, 2)]), False), ((both, [(0, 0, None), (1, 1, 1), (1, 1, 2)]), False),
                ((both, [(0, 0, None), (0, True, 1), (1, 1, 2)]), False), ({"0": both, "1": last}, False)]:
            found = self.result_of(shows_parted_pages, schema=schema, leaf=0, numbers=numbers, test=test, thing=thing)
            self.assertEqual(found, wanted, thing)
        for thing in OTHER_OBJECTS + [schema, (schema, schema), ([schema], [schema])]:
            self.assertIs(shows_parted_pages(schema, 0, numbers, test, thing), False)

    def test_all_pairs_of_small_pages(self):
        for way in ["", "m", "l", "lm"]:
            schema = Schema(text_with(way))
            pages = list(small_pages(way, 3, [0, 1]))
            for numbers, word in itertools.product({numbers_in(page) for page in pages}, ["some", "all"]):
                test = (word, node_of_leaf(way), "=", 1)
                same = [page for page in pages if numbers_in(page) == numbers]
                for thing in itertools.product(same, repeat=2):
                    wanted = bits_in(thing[0], test) != bits_in(thing[1], test)
                    self.assertEqual(shows_parted_pages(schema, 0, numbers, test, thing), wanted)
                others = [page for page in pages if numbers_in(page) != numbers][:3]
                for page, other in itertools.product(same[:3], others):
                    self.assertFalse(shows_parted_pages(schema, 0, numbers, test, (page, other)))
                    self.assertFalse(shows_parted_pages(schema, 0, numbers, test, (other, page)))

    def test_nothing_is_shown_where_nothing_must_be_read(self):
        schema, column = Schema("[v]"), [(0, 1, 1), (0, 1, 2)]
        self.assertFalse(shows_parted_pages(schema, 0, (2, 2, 2, 1, 2), ("some", 1, ">", 5), (column, column[::-1])))


class ByPages(Calls):

    def test_by_hand(self):
        schema, test = Schema("[v]"), ("some", 1, ">", 3)
        low, mixed, high = [(0, 1, 1), (0, 0, None)], [(0, 1, 1), (1, 1, 2), (0, 1, 5)], [(0, 1, 4), (0, 1, 5)]
        for pages, wanted in [
                ([], ([], [])), ([low], ([False, False], [])), ([high], ([True, True], [])), ([mixed], ([False, True], [0])),
                ([low, mixed, high], ([False, False, False, True, True, True], [1])),
                ([mixed, high, mixed, low], ([False, True, True, True, False, True, False, False], [0, 2]))]:
            found = self.result_of(bits_by_pages, schema=schema, leaf=0, pages=pages, test=test)
            self.assertEqual(found, wanted)
            self.assertIs(type(found), tuple)

    def test_against_the_mask_of_the_joined_pages(self):
        told = set()
        for rng, tree, schema, table in drawn(207, 200, 4, 8):
            leaf = rng.randrange(len(schema))
            node = leaves_of(tree)[leaf]
            test = (rng.choice(["some", "all"]), node, rng.choice("<=>"), rng.choice([-1, 0, 1, 7, 8]))
            columns = [column_in(tree, other, table) for other in range(len(schema))]
            pages = cut_pages(schema, leaf, columns[leaf], rng.randint(1, 3))
            bits, read = self.result_of(bits_by_pages, schema=schema, leaf=leaf, pages=pages, test=test)
            self.assertEqual(bits, mask(schema, columns, -1, test))
            states = [page_state(schema, leaf, page_numbers(schema, leaf, page), test) for page in pages]
            self.assertEqual(read, [index for index, state in enumerate(states) if state == "read"])
            told |= set(states)
            order = list(range(len(pages)))
            rng.shuffle(order)
            bits, read = bits_by_pages(schema, leaf, [pages[index] for index in order], test)
            self.assertEqual(bits, [bit for index in order for bit in bits_in(pages[index], test)])
            self.assertEqual(read, [at for at, index in enumerate(order) if states[index] == "read"])
        self.assertEqual(told, {"yes", "no", "read"})

    def test_pages_that_are_none(self):
        schema, test, page = Schema("[v]"), ("some", 1, ">", 1), [(0, 1, 1)]
        for pages in OTHER_OBJECTS + [(page,), [[]], [page, []], [None], [page, None], [tuple(page)], page, [[None]],
                                      [page, [(1, 1, 1)]], [[(0, 1, True)]], [[(0, 2, 1)]], {"0": page}, schema, [schema]]:
            for given in [test, None]:
                self.assert_fault(("InvalidPage",), bits_by_pages, schema, 0, pages, given)


class Errors(Calls):

    def test_leaves_that_are_none(self):
        schema = Schema(EXAMPLE)
        for leaf in [-1, 4, 10 ** 59, 1 - 10 ** 60]:
            for function, rest in [(page_state, (None, None)), (parted_pages, (None, None)),
                                   (shows_parted_pages, (None, None, None)), (bits_by_pages, (None, None)),
                                   (page_state, ((1, 1, 1, 1, 1), ("some", 1, ">", 1)))]:
                self.assert_fault(("InvalidLeaf",), function, schema, leaf, *rest)

    def test_tests_that_are_none(self):
        schema, numbers = Schema("[v]"), (2, 3, 2, 1, 2)
        for test in NO_TESTS:
            self.assert_fault(("InvalidTest",), page_state, schema, 0, numbers, test)
            self.assert_fault(("InvalidTest",), parted_pages, schema, 0, numbers, test)
            self.assert_fault(("InvalidTest",), shows_parted_pages, schema, 0, numbers, test, None)
            for pages in [[], [[(0, 1, 1)]]]:
                self.assert_fault(("InvalidTest",), bits_by_pages, schema, 0, pages, test)

    def test_tests_of_other_leaves(self):
        schema = Schema(EXAMPLE)
        places = leaves_of(tree_of(EXAMPLE))
        for leaf, node in itertools.product(range(4), range(-1, 10)):
            wanted = None if node == places[leaf] else ("InvalidTest",)
            for numbers in [(1, 1, 1, 4, 4)]:
                self.assert_fault(wanted, page_state, schema, leaf, numbers, ("all", node, "<", 4))
            self.assert_fault(wanted, bits_by_pages, schema, leaf, [COLUMNS[leaf]], ("all", node, "<", 4))

    def test_functions_stand_in_their_file(self):
        for named in [page_numbers, cut_pages, page_state, parted_pages, shows_parted_pages, bits_by_pages]:
            self.assertEqual(named.__module__, "levelcolumns.pages")

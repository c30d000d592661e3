"""Point 21: texts of columns and of tests."""

import itertools
import random

from levelcolumns.masks import mask
from levelcolumns.schemas import Schema
from levelcolumns.texts import read_column, read_test, write_column, write_test
from tests.edited import drawn
from tests.samples import columns_in, filter_nodes, random_test
from tests.test_columns import COLUMNS
from tests.test_masks import nested
from tests.tools import Calls, fault_of

COLUMN_TEXTS = [
    ([], "-"), ([(0, 0, 1)], "0.0=1"), ([(0, 0, None)], "0.0"), (COLUMNS[1], "0.0 0.1=1 1.1=2"),
    ([(99, 99, 0)], "99.99=0"), ([(10, 0, -1), (0, 10, None)], "10.0=-1 0.10"),
    ([(0, 0, 10 ** 60 - 1), (1, 1, 1 - 10 ** 60)], f"0.0={'9' * 60} 1.1=-{'9' * 60}"), ([(5, 7, 100), (3, 2, -90)], "5.7=100 3.2=-90")]

# Words that are no entry.
NO_ENTRIES = ["", "-", "0", "0.", ".0", ".", "0.0=", "=1", "0=1", "0.=1", ".0=1", "0.0.0", "0.0.0=1", "0.0=1=1", "0.0==1",
              "00.0", "0.00", "01.0", "0.01", "-1.0", "0.-1", "-0.0", "+1.0", "100.0", "0.100", "100.0=1", "0.100=1",
              "999.0", "0.0=-0", "0.0=00", "0.0=01", "0.0=-01", "0.0=+1", "0.0=--1", "0.0=-", "0.0=1-", "0.0=1.0",
              "0.0=1_0", "1_0.0", "0.0=x", "x.0", "0.x", "0.0=0x1", "0.0=1e3", "0,0", "0.0,1", "(0,0)", "0.0=None", "0.0=\n1",
              "0.0\n", "\n0.0", "0.0\n0.0", "0.0=" + "9" * 61, "0.0=-" + "1" * 61, "0.0=1" + "0" * 60, "9" * 61 + ".0",
              "0." + "9" * 61, "0.0=1\n", "0.0=True", "/", "some"]

TEST_TEXTS = [
    (("some", 3, ">", 1), "some 3 > 1"), (("all", 3, "=", -2), "all 3 = -2"), (("some", 0, "<", 0), "some 0 < 0"),
    (("all", 39, "<", 10 ** 60 - 1), "all 39 < " + "9" * 60), (("some", 1, "=", 1 - 10 ** 60), "some 1 = -" + "9" * 60),
    (("not", ("some", 3, ">", 1)), "not some 3 > 1"), (("not", ("not", ("all", 3, ">", 1))), "not not all 3 > 1"),
    (("both", ("some", 3, ">", 1), ("all", 4, "<", 2)), "both some 3 > 1 all 4 < 2"),
    (("either", ("not", ("some", 3, ">", 1)), ("both", ("all", 1, "=", 1), ("all", 2, "=", 2))),
     "either not some 3 > 1 both all 1 = 1 all 2 = 2")]


class Columns(Calls):

    def test_by_hand(self):
        for column, text in COLUMN_TEXTS:
            self.assertEqual(self.result_of(write_column, column=column), text)
            self.assertEqual(self.result_of(read_column, text=text), column)

    def test_columns_of_drawn_tables(self):
        for rng, tree, schema, table in drawn(221, 150):
            for column in columns_in(tree, table):
                text = self.result_of(write_column, column=column)
                words = [f"{level}.{deep}" + ("" if value is None else f"={value}") for level, deep, value in column]
                self.assertEqual(text, " ".join(words) or "-")
                self.assertEqual(self.result_of(read_column, text=text), column)

    def test_entries_of_whatever_schema(self):
        rng = random.Random(223)
        for _ in range(200):
            column = [(rng.randrange(100), rng.randrange(100), rng.choice([None, 0, rng.randint(-10 ** 60 + 1, 10 ** 60 - 1)]))
                      for _ in range(rng.choice([0, 1, 2, 5]))]
            self.assertEqual(read_column(write_column(column)), column)

    def test_all_levels(self):
        for level, deep in itertools.product([0, 1, 9, 10, 98, 99], repeat=2):
            self.assertEqual(read_column(f"{level}.{deep}"), [(level, deep, None)])
            self.assertEqual(write_column([(level, deep, 3)]), f"{level}.{deep}=3")
        for level in [100, 101, 999, 1000]:
            self.assert_fault(("InvalidText", 1), read_column, f"0.0 {level}.0")
            self.assert_fault(("InvalidText", 1), read_column, f"0.0 0.{level}=1")

    def test_words_that_are_wrong(self):
        for word in NO_ENTRIES:
            for before, behind in [([], []), (["0.0"], []), (["0.0=1", "1.1"], ["0.0"]), ([], ["x"]), (["0.0=5"], ["-"])]:
                if word == "-" and not before:
                    continue
                text = " ".join(before + [word] + behind)
                self.assert_fault(("InvalidText", len(before)), read_column, text)

    def test_blanks_and_the_empty_string(self):
        for text, place in [("", 0), (" ", 0), (" 0.0", 0), ("0.0 ", 1), ("0.0  0.0", 1), ("0.0 0.0 ", 2), ("  ", 0),
                            ("\n", 0), ("0.0\n0.0", 0), ("0.0 \n", 1)]:
            self.assert_fault(("InvalidText", place), read_column, text)

    def test_words_behind_the_sign_for_none(self):
        for text, place in [("- ", 1), ("- 0.0", 1), ("- -", 1), ("0.0 -", 1), ("--", 0), ("-0.0", 0), ("- x y", 1),
                            ("x -", 0), (" -", 0), ("-\n", 0), ("0.0 0.0 - 0.0", 2)]:
            self.assert_fault(("InvalidText", place), read_column, text)
        self.assertEqual(read_column("-"), [])

    def test_four_hundred_words_and_one_more(self):
        column = [(0, 0, None)] * 400
        self.assertEqual(read_column(write_column(column)), column)
        words = ["1.1"] * 400
        self.assertEqual(read_column(" ".join(words)), [(1, 1, None)] * 400)
        for more in [["0.0"], ["x"], [""], ["-"], ["0.0", "0.0"]]:
            self.assert_fault(("InvalidText", 400), read_column, " ".join(words + more))
        self.assert_fault(("InvalidText", 7), read_column, " ".join(words[:7] + ["x"] + words))
        # What is returned elsewhere may be longer, and is written all the same.
        self.assertEqual(write_column(column + [(0, 0, 5)]), " ".join(["0.0"] * 400 + ["0.0=5"]))

    def test_texts_that_are_changed_at_one_place(self):
        rng, texts = random.Random(225), {}
        for _ in range(3000):
            _, text = rng.choice(COLUMN_TEXTS)
            at = rng.randrange(len(text) + 1)
            wrong = text[:at] + rng.choice(["", "0", "1", "-", ".", "=", " ", "x", "\n"]) + text[at + rng.randint(0, 1):]
            fault = fault_of(read_column, wrong)
            if fault is None:
                column = read_column(wrong)
                self.assertEqual(write_column(column), wrong)
                self.assertEqual(texts.setdefault(repr(column), wrong), wrong)
            else:
                self.assertEqual(fault[0], "InvalidText")
                # All before the wrong word can be read, and with this word it cannot.
                words = wrong.split(" ")
                if fault[1] > 0 and words[0] != "-":
                    self.assertEqual(len(read_column(" ".join(words[:fault[1]]))), fault[1])
                self.assertEqual(fault_of(read_column, " ".join(words[:fault[1] + 1])), fault)


class Tests(Calls):

    def test_by_hand(self):
        for test, text in TEST_TEXTS:
            self.assertEqual(self.result_of(write_test, test=test), text)
            self.assertEqual(self.result_of(read_test, text=text), test)

    def test_drawn_tests(self):
        for rng, tree, schema, table in drawn(227, 150):
            for node in filter_nodes(tree):
                test = random_test(rng, tree, node)
                text = self.result_of(write_test, test=test)
                found = self.result_of(read_test, text=text)
                self.assertEqual(found, test)
                self.assertEqual(mask(schema, columns_in(tree, table), node, found),
                                 mask(schema, columns_in(tree, table), node, test))

    def test_twenty_deep_and_more(self):
        for word in ["not", "both", "either"]:
            for deep in [1, 2, 19, 20]:
                test = nested(word, deep)
                self.assertEqual(read_test(write_test(test)), test)
        for deep in [20, 21, 25]:
            # The word that begins the level behind the last one cannot stand, whatever it is.
            for word in ["some", "all", "not", "both", "either", "x", ""]:
                self.assert_fault(("InvalidText", 20), read_test, " ".join(["not"] * 20 + [word] + ["3 > 1"] * (deep - 20)))
        self.assert_fault(("InvalidText", 20), read_test, " ".join(["not"] * 20))
        self.assert_fault(("InvalidText", 20), read_test, " ".join(["not"] * 20 + ["some", "3", ">", "1"]))
        self.assert_fault(("InvalidText", 19), read_test, " ".join(["not"] * 19))
        text = " ".join(["both"] * 19 + ["some 3 > 1"] * 20)
        self.assertEqual(read_test(text), nested_both(20))
        self.assert_fault(("InvalidText", 20), read_test, "both " + text)
        self.assert_fault(("InvalidText", 5 + 19), read_test, "both some 3 > 1 " + " ".join(["not"] * 19 + ["some 3 > 1"]))
        self.assertEqual(read_test("both some 3 > 1 " + " ".join(["not"] * 18 + ["some 3 > 1"]))[0], "both")

    def test_nodes(self):
        for node in [0, 1, 9, 10, 38, 39]:
            self.assertEqual(read_test(f"some {node} > 1"), ("some", node, ">", 1))
        for word in ["40", "41", "99", "100", "-1", "-0", "00", "01", "+1", "x", "", "1.0", "1_0", "9" * 60, "9" * 61, "3\n"]:
            self.assert_fault(("InvalidText", 1), read_test, f"some {word} > 1")
            self.assert_fault(("InvalidText", 2), read_test, f"not all {word} > 1")
            self.assert_fault(("InvalidText", 6), read_test, f"both all 1 = 1 all {word} > 1")

    def test_signs_and_numbers(self):
        for word in ["", ">=", "<>", "==", "!", "some", "1", "> ", ">\n"]:
            place = 3 if word == "> " else 2
            self.assert_fault(("InvalidText", place), read_test, f"some 3 {word} 1")
        for word in ["", "-0", "00", "01", "-01", "+1", "--1", "-", "x", "1.0", "1_0", "9" * 61, "-" + "9" * 61, "1\n", ">",
                     "None", "0x1"]:
            self.assert_fault(("InvalidText", 3), read_test, f"some 3 > {word}")
        for number in [0, 1, -1, 10, 10 ** 59, 10 ** 60 - 1, 1 - 10 ** 60]:
            self.assertEqual(read_test(f"all 3 < {number}"), ("all", 3, "<", number))

    def test_words_that_are_missing_too_many_or_exchanged(self):
        for text, place in [
                ("", 0), (" ", 0), ("x", 0), ("Some 3 > 1", 0), ("some", 1), ("some ", 1), ("some 3", 2), ("some 3 >", 3),
                ("some 3 > 1 ", 4), ("some 3 > 1 2", 4), ("some 3 > 1 some 3 > 1", 4), ("some  3 > 1", 1),
                ("some 3  > 1", 2), ("some 3 >  1", 3), (" some 3 > 1", 0), ("some > 3 1", 1), ("3 some > 1", 0),
                ("> 3 some 1", 0), ("some 3 1 >", 2), ("not", 1), ("not x", 1), ("not 3", 1), ("not some", 2),
                ("not some 3 > 1 all 3 > 1", 5), ("both", 1), ("both some 3 > 1", 5), ("both some 3 > 1 x", 5),
                ("both some 3 > 1 some 3 > 1 some 3 > 1", 9), ("either some 3 > 1", 5), ("either some 3 > 1 not", 6),
                ("both not some 3 > 1 all 3 <", 9), ("both both some 3 > 1 some 3 > 1", 10), ("some 3 > 1\n", 3),
                ("some 3 > 1 \n", 4), ("not  some 3 > 1", 1), ("\nsome 3 > 1", 0), ("any 3 > 1", 0), ("-", 0)]:
            self.assert_fault(("InvalidText", place), read_test, text)

    def test_each_beginning_of_a_text(self):
        for _, text in TEST_TEXTS:
            words = text.split(" ")
            for many in range(1, len(words)):
                self.assert_fault(("InvalidText", many), read_test, " ".join(words[:many]))
                for other in ["x", "", "some 3", "99"]:
                    if not (other == "some 3" and words[many] in ("some", "all", "not", "both", "either")):
                        if not (other == "99" and words[many].lstrip("-").isdigit()):
                            wrong = words[:many] + [other]
                            self.assert_fault(("InvalidText", many), read_test, " ".join(wrong))

    def test_each_text_has_just_one_test(self):
        rng, texts = random.Random(229), {}
        for _ in range(3000):
            _, text = rng.choice(TEST_TEXTS)
            words = text.split(" ")
            at = rng.randrange(len(words))
            words[at:at + rng.randint(0, 1)] = rng.choices(["some", "all", "not", "both", "<", "=", ">", "3", "-2", "0", ""], k=1)
            wrong = " ".join(words)
            fault = fault_of(read_test, wrong)
            if fault is None:
                self.assertEqual(write_test(read_test(wrong)), wrong)
                self.assertEqual(texts.setdefault(repr(read_test(wrong)), wrong), wrong)
            else:
                self.assertEqual(fault[0], "InvalidText")
                self.assertTrue(0 <= fault[1] <= len(words))
                if fault[1] < len(words):
                    # The words before it can stand, so that a text of them alone goes wrong at its end, or is one.
                    before = fault_of(read_test, " ".join(words[:fault[1]]) if fault[1] else "")
                    self.assertIn(before, [None, fault])

    def test_functions_stand_in_their_file(self):
        for named in [write_column, read_column, write_test, read_test]:
            self.assertEqual(named.__module__, "levelcolumns.texts")
        self.assertEqual(Schema("v").text, "v")


def nested_both(deep):
    test = ("some", 3, ">", 1)
    for _ in range(deep - 1):
        test = ("both", test, ("some", 3, ">", 1))
    return test

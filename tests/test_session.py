"""Point 22: sessions, line by line."""

import random
import unittest

from levelcolumns.fitting import joined
from levelcolumns.live import LiveTable
from levelcolumns.schemas import Schema
from levelcolumns.session import session
from levelcolumns.texts import read_column, write_column, write_test
from tests.samples import (EXAMPLE, TWELVE, columns_in, filter_nodes, nodes_of, random_document, random_test,
                           random_trees, text_of)
from tests.test_texts import NO_ENTRIES
from tests.tools import fault_of

NO_NUMBERS = ["x", "+1", "1_0", "01", "00", "-0", "--1", "1.0", "9" * 61, "-", "1\t", "0x1", "one", "-2", "-10", "1,", "1-"]

# Lines that are none, whatever stands before them.
NO_LINES = ["", " ", "x", "schema", "put", "column", "keep", "keep 2", "keep -1", "count", "sum", "values", "lengths",
            "drop", "back", "undo 1", "mark 0", "undo undo", "mark mark", "Undo", "UNDO", "marks", "count 1 1", "sum 1 1",
            "values 1 1", "lengths 1 1", "column 0 0", "drop 0 0", "back 0 0", "ask 1", "there 4", "least 1", "greatest 1",
            "?", "ok", "-", "twin", "table", "columns", "take 0", " undo", "undo ", " mark", "mark ", "count  1", " count 1",
            "count 1 ", "put  0.0=1", "put 0.0=1 ", "put 0.0=1  / 0.0", "schema  v", "schema v ", " schema v", "  ",
            "schema ", "put ", "keep ", "keep  2 some 3 > 1", "keep 2  some 3 > 1", "keep 2 some  3 > 1",
            "keep 2 some 3 > 1 ", "column 0 ", "undo\t", "schema\tv"]


def answers_to(*lines):
    return session("\n".join(lines)).split("\n")


def name_of(function, *arguments):
    """The answer to a call that returns None."""
    fault = fault_of(function, *arguments)
    return "ok" if fault is None else fault[0]


def told(function, *arguments):
    """The answer to a call that returns a number or a list of numbers."""
    fault = fault_of(function, *arguments)
    if fault is not None:
        return fault[0]
    result = function(*arguments)
    if isinstance(result, list):
        return " ".join(str(number) for number in result) or "-"
    return str(result)


def put_on(live, texts):
    """The answer to a put line, from the calls that it stands for."""
    faults = [fault_of(read_column, text) for text in texts]
    if any(faults):
        return "InvalidText"
    columns = [read_column(text) for text in texts]
    fault = fault_of(joined, live.schema, columns)
    if fault is not None:
        return fault[0]
    table = joined(live.schema, columns)
    if len(table) != 1:
        return "InvalidPart"
    return name_of(live.put_document, len(live), table[0])


class ByHand(unittest.TestCase):

    def assert_session(self, pairs):
        lines, answers = [line for line, _ in pairs], [answer for _, answer in pairs]
        found = session("\n".join(lines))
        self.assertIs(type(found), str)
        self.assertEqual(list(zip(lines, found.split("\n"))), list(zip(lines, answers)))
        self.assertEqual(session(rows="\n".join(lines)), found)

    def test_the_table_of_the_document(self):
        self.assert_session([
            (f"schema {EXAMPLE}", "ok"), ("count -1", "0"), ("column 1", "-"),
            ("put 0.0=1 / 0.0 / 0.0 / 0.0", "ok"), ("put 0.0=2 / 0.1=1 1.1=2 / 0.1=5 / 0.2=7", "ok"),
            ("column 0", "0.0=1 0.0=2"), ("column 1", "0.0 0.1=1 1.1=2"), ("column 2", "0.0 0.1=5"),
            ("column 3", "0.0 0.2=7"), ("count -1", "2"), ("count 0", "2"), ("count 2", "2"), ("count 4", "1"),
            ("count 8", "1"), ("sum 1", "3"), ("sum 3", "3"), ("sum 8", "7"), ("values 1", "1 2"), ("values 3", "1 2"),
            ("values 8", "7"), ("lengths 2", "0 2"), ("lengths 7", "1"), ("mark", "0"), ("keep 2 some 3 > 1", "ok"),
            ("column 1", "0.0 0.1=2"), ("mark", "1"), ("keep -1 some 1 < 2", "ok"), ("values 3", "-"), ("lengths 7", "-"),
            ("lengths 2", "0"), ("count -1", "1"), ("sum 3", "0"), ("back 1", "ok"), ("values 3", "2"), ("back 0", "ok"),
            ("values 3", "1 2"), ("back 1", "InvalidNumber"), ("drop 0", "ok"), ("column 0", "0.0=2"), ("undo", "ok"),
            ("count -1", "2"), ("undo", "ok"), ("undo", "ok"), ("undo", "NothingToUndo"), ("column 0", "-")])

    def test_no_lines_and_empty_lines(self):
        self.assertEqual(session(""), "?")
        self.assertEqual(session("\n"), "?\n?")
        self.assertEqual(session("\n\nschema v\n\nput 0.0=1\n"), "?\n?\nok\n?\nok\n?")
        self.assertEqual(session("schema v"), "ok")
        self.assertEqual(session(rows="x"), "?")

    def test_before_the_first_schema_line(self):
        before = ["put 0.0=1", "column 0", "keep -1 some 0 < 1", "count -1", "sum 0", "values 0", "lengths 0", "drop 0",
                  "undo", "mark", "back 0", "put x", "keep -1 x", "column 99"]
        self.assert_session([(line, "?") for line in before])
        self.assert_session([("schema x", "InvalidText")] + [(line, "?") for line in before] + [
            ("schema v", "ok"), ("count -1", "0"), ("put 0.0=1", "ok"), ("undo", "ok"), ("mark", "0")])

    def test_a_second_schema_line(self):
        self.assert_session([
            ("schema v", "ok"), ("put 0.0=1", "ok"), ("mark", "0"), ("schema [v]", "ok"), ("count -1", "0"),
            ("back 0", "InvalidNumber"), ("undo", "NothingToUndo"), ("put 0.1=1 1.1=2", "ok"), ("schema [v]", "ok"),
            ("count -1", "0"), ("put 0.0=1", "InvalidColumns")])

    def test_a_schema_line_that_cannot_be_read_changes_nothing(self):
        self.assert_session([
            ("schema v", "ok"), ("put 0.0=1", "ok"), ("schema x", "InvalidText"), ("schema {a:v a:v}", "InvalidText"),
            ("schema v v", "InvalidText"), ("schema [v", "InvalidText"), ("schema " + "?" * 9 + "v", "InvalidText"),
            ("schema", "?"), ("schema v ", "?"), ("schema  v", "?"), ("values 0", "1"), ("undo", "ok"), ("count -1", "0")])

    def test_schemas_with_blanks(self):
        self.assert_session([
            ("schema {a:v b:[{c:v d:?v}]}", "ok"), ("put 0.0=1 / 0.1=2 1.1=3 / 0.2=4 1.1", "ok"), ("values 4", "2 3"),
            ("values 6", "4"), ("sum 5", "InvalidAsk"), ("count 5", "1"), ("count 3", "2"), ("count 2", "2"),
            ("lengths 2", "2")])
        self.assert_session([(f"schema {TWELVE}", "ok"), ("put " + " / ".join(["0.0=7"] * 12), "ok"), ("sum 12", "7")])

    def test_numbers_of_nodes_and_others(self):
        self.assert_session([
            ("schema [v]", "ok"), ("put 0.1=1 1.1=2", "ok"), ("count 2", "InvalidAsk"), ("count 1", "2"), ("sum -1", "InvalidAsk"),
            ("sum 0", "InvalidAsk"), ("values -1", "InvalidAsk"), ("lengths -1", "InvalidAsk"), ("lengths 1", "InvalidAsk"),
            ("count " + "9" * 60, "InvalidAsk"), ("count " + "9" * 61, "?"), ("column 1", "InvalidLeaf"),
            ("column " + "9" * 60, "InvalidLeaf"), ("column -1", "?"), ("drop 1", "InvalidPath"), ("drop -1", "?"),
            ("drop " + "9" * 60, "InvalidPath"), ("back 0", "InvalidNumber"), ("back -1", "?"),
            ("back " + "9" * 60, "InvalidNumber"), ("keep 1 some 1 > 1", "InvalidNode"), ("keep -1 some 1 > 1", "ok"),
            ("keep " + "9" * 60 + " some 1 > 1", "InvalidNode"), ("keep -2 some 1 > 1", "?"), ("count -2", "?")])

    def test_words_that_are_no_numbers(self):
        for word in NO_NUMBERS:
            lines = [f"{name} {word}" for name in ["count", "sum", "values", "lengths", "column", "drop", "back"]]
            lines.append(f"keep {word} some 1 > 1")
            # A test that cannot be read plays no role in what is no keep line.
            lines.append(f"keep {word} x")
            self.assert_session([("schema [v]", "ok"), ("mark", "0"), ("put 0.1=1", "ok"), ("put 0.1=2", "ok")] +
                                [(line, "?") for line in lines] + [("column 0", "0.1=1 0.1=2")])

    def test_lines_that_are_none(self):
        for line in NO_LINES:
            self.assert_session([(line, "?"), ("schema v", "ok"), ("put 0.0=1", "ok"), (line, "?"), ("values 0", "1"),
                                 ("undo", "ok"), ("mark", "0")])

    def test_put_lines(self):
        for line, answer in [
                ("put 0.0=1 / 0.0", "ok"), ("put 0.0=1 / 0.1=1 1.1=2", "ok"), ("put - / -", "InvalidPart"),
                ("put 0.0=1 0.0=2 / 0.0 0.0", "InvalidPart"), ("put 0.0=1", "InvalidColumns"),
                ("put 0.0=1 / 0.0 / 0.0", "InvalidColumns"), ("put 0.0 / 0.0", "InvalidColumns"),
                ("put 0.0=1 / 0.1", "InvalidColumns"), ("put 0.0=1 / 1.1=2", "InvalidColumns"),
                ("put 0.0=1 / -", "NotFitting"), ("put 0.0=1 / 0.0 0.0", "NotFitting"), ("put - / 0.0", "NotFitting"),
                ("put x / 0.0", "InvalidText"), ("put 0.0=1 / x", "InvalidText"), ("put 0.0=1 / 0.0 / x", "InvalidText"),
                ("put /", "InvalidText"), ("put 0.0=1 /", "InvalidText"), ("put / 0.0", "InvalidText"),
                ("put 0.0=1 / / 0.0", "InvalidText"), ("put 0.0=1/0.0", "InvalidText"), ("put 0.0=1 / 0.0 /", "InvalidText"),
                ("put - x / 0.0", "InvalidText"), ("put 0.0=1 / - -", "InvalidText"), ("put 00.0=1 / 0.0", "InvalidText"),
                ("put 0.0=01 / 5.5", "InvalidText"), ("put 5.5 / 0.0=+1", "InvalidText"), ("put 0.0=-1 / 0.1=-7", "ok"),
                ("put 0.0=" + "9" * 60 + " / 0.0", "ok"), ("put 0.0=" + "9" * 61 + " / 0.0", "InvalidText")]:
            many = "1" if answer == "ok" else "0"
            self.assert_session([("schema {a:v b:[v]}", "ok"), (line, answer), ("count -1", many),
                                 ("undo", "ok" if answer == "ok" else "NothingToUndo")])
        for word in NO_ENTRIES:
            if "\n" not in word:
                answer = "?" if word == "" else "InvalidPart" if word == "-" else "InvalidText"
                self.assert_session([("schema v", "ok"), (f"put {word}", answer), ("count -1", "0")])

    def test_keep_lines(self):
        for line, answer in [
                ("keep 1 some 2 > 1", "ok"), ("keep -1 all 2 > 1", "ok"), ("keep -1 some 3 > 1", "ok"),
                ("keep 1 not both some 2 > 1 all 2 < 5", "ok"), ("keep 1 x", "InvalidText"), ("keep 9 x", "InvalidText"),
                ("keep 1 some", "InvalidText"), ("keep 1 some 40 > 1", "InvalidText"), ("keep 9 some 40 > 1", "InvalidText"),
                ("keep 0 some 2 > 1", "InvalidNode"), ("keep 2 some 2 > 1", "InvalidNode"), ("keep 1 some 3 > 1", "InvalidTest"),
                ("keep 1 some 39 > 1", "InvalidTest"), ("keep 9 some 39 > 1", "InvalidNode"),
                ("keep 1 " + "not " * 19 + "some 2 > 1", "ok"), ("keep 1 " + "not " * 20 + "some 2 > 1", "InvalidText")]:
            self.assert_session([("schema {a:[v] b:v}", "ok"), ("put 0.1=1 1.1=2 / 0.0=3", "ok"), (line, answer),
                                 ("undo", "ok"), ("undo", "NothingToUndo" if answer != "ok" else "ok")])

    def test_sums_of_many_digits(self):
        line = "put " + " ".join(["0.1=" + "9" * 60] + ["1.1=" + "9" * 60] * 9)
        self.assert_session([("schema [v]", "ok"), (line, "ok"), ("sum 1", str((10 ** 60 - 1) * 10))])

    def test_four_hundred_entries(self):
        lines = ["schema [v]"] + ["put " + " ".join(["0.1=1"] + ["1.1=2"] * 49)] * 8
        self.assertEqual(answers_to(*lines, "count 1", "put 0.0", "undo", "put 0.0", "count -1", "lengths 0"),
                         ["ok"] * 9 + ["400", "TooLarge", "ok", "ok", "8", "50 50 50 50 50 50 50 0"])

    def test_two_hundred_lines(self):
        lines = ["schema [v]"] + [f"put 0.1={number}" for number in range(149)] + ["count -1"] * 49 + ["sum 1"]
        self.assertEqual(answers_to(*lines), ["ok"] * 150 + ["149"] * 49 + [str(149 * 74)])


class Drawn(unittest.TestCase):

    def line_of(self, rng, tree, live):
        """A line that is drawn, and its answer, from the same calls on a live table."""
        many = len(nodes_of(tree))
        word = rng.choice(["put"] * 5 + ["column", "keep", "count", "sum", "values", "lengths", "drop", "undo", "mark",
                           "back", "none"])
        number = rng.randint(-1, many)
        if word == "none":
            return rng.choice(NO_LINES), "?"
        if word == "put":
            texts = [write_column(column) for column in columns_in(tree, [random_document(rng, tree)])]
            if rng.random() < 0.4:
                at = rng.randrange(len(texts))
                texts[at] = rng.choice(["-", "0.0", "0.0=1", "x", texts[at] + " 0.0", "0.1=1", texts[0], texts[at] + " x"])
            if rng.random() < 0.1:
                texts = rng.choice([texts[:-1], texts + ["0.0"], texts[::-1]]) or ["0.0"]
            return "put " + " / ".join(texts), put_on(live, texts)
        if word == "keep":
            node = rng.choice(filter_nodes(tree))
            test = random_test(rng, tree, node, 3)
            place = rng.choice([node, node, node, -1, number])
            return f"keep {place} {write_test(test)}", name_of(live.keep, place, test)
        if word in ("count", "sum", "values", "lengths"):
            return f"{word} {number}", told(live.ask, (word, number))
        if word == "column":
            leaf = rng.randint(0, len(live.schema))
            if leaf == len(live.schema):
                return f"column {leaf}", "InvalidLeaf"
            return f"column {leaf}", write_column(live.columns()[leaf])
        if word == "mark":
            return "mark", str(live.mark())
        if word == "undo":
            return "undo", name_of(live.undo)
        index = rng.randint(0, 4)
        return f"{word} {index}", name_of(live.take_document if word == "drop" else live.undo_to, index)

    def test_sessions_against_a_live_table(self):
        rng, met = random.Random(231), set()
        for tree in random_trees(120, seed=232, most_leaves=5):
            lines, answers, live = [], [], None
            for _ in range(60):
                if live is None or rng.random() < 0.02:
                    text = text_of(tree)
                    if rng.random() < 0.3:
                        lines.append("schema " + rng.choice([text + "]", "x", text.replace("v", "w"), text + " " + text]))
                        answers.append("InvalidText")
                    else:
                        lines.append("schema " + text)
                        answers.append("ok")
                        live = LiveTable(Schema(text))
                    continue
                line, answer = self.line_of(rng, tree, live)
                lines.append(line)
                answers.append(answer)
                if not answer[:1].isdigit():
                    met.add((line.split(" ")[0], answer))
            found = answers_to(*lines)
            self.assertEqual(list(zip(lines, found)), list(zip(lines, answers)))
        self.assertTrue({("put", "InvalidText"), ("put", "InvalidColumns"), ("put", "NotFitting"), ("put", "InvalidPart"),
                         ("put", "ok"), ("keep", "ok"), ("keep", "InvalidNode"), ("keep", "InvalidTest"), ("undo", "ok"),
                         ("undo", "NothingToUndo"), ("back", "ok"), ("back", "InvalidNumber"), ("drop", "ok"),
                         ("drop", "InvalidPath"), ("column", "-"), ("column", "InvalidLeaf"), ("values", "-"),
                         ("values", "InvalidAsk"), ("lengths", "InvalidAsk"), ("sum", "InvalidAsk")} <= met)

    def test_it_stands_in_its_file(self):
        self.assertEqual(session.__module__, "levelcolumns.session")

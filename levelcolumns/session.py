"""A session: lines of a text, each one answered by a line."""

from levelcolumns.errors import ColumnError, InvalidLeaf, InvalidPart
from levelcolumns.fitting import joined
from levelcolumns.live import LiveTable
from levelcolumns.schemas import Schema
from levelcolumns.texts import plain_number, read_column, read_test, write_column

# The answer to what is no line of a session, or none there.
UNKNOWN = "?"

ASKS = ("count", "sum", "values", "lengths")
CALLS = ("column", "drop", "back")


def session(rows):
    """The answers to the lines of a string, one line for each."""
    live = None
    answers = []
    for line in rows.split("\n"):
        live, answer = _after(live, line)
        answers.append(answer)
    return "\n".join(answers)


def _after(live, line):
    """The live table behind a line (None if there is none yet), and the answer to the line."""
    words = line.split(" ")
    if "" in words:
        return live, UNKNOWN
    try:
        if words[0] == "schema" and len(words) > 1:
            return LiveTable(Schema(" ".join(words[1:]))), "ok"
        if live is None:
            return live, UNKNOWN
        return live, _answer(live, words)
    except ColumnError as error:
        return live, type(error).__name__


def _answer(live, words):
    """The answer to a line that begins no live table."""
    word, many = words[0], len(words)
    if word == "put" and many > 1:
        return _put(live, " ".join(words[1:]))
    if word == "keep" and many > 2:
        return _keep(live, words[1], " ".join(words[2:]))
    if word in ASKS and many == 2:
        return _ask(live, word, words[1])
    if word in CALLS and many == 2:
        return _call(live, word, words[1])
    if word == "undo" and many == 1:
        live.undo()
        return "ok"
    if word == "mark" and many == 1:
        return str(live.mark())
    return UNKNOWN


def _put(live, text):
    columns = [read_column(part) for part in text.split(" / ")]
    table = joined(live.schema, columns)
    if len(table) != 1:
        raise InvalidPart("the columns of other than one document")
    live.put_document(len(live), table[0])
    return "ok"


def _keep(live, word, text):
    node = _node_in(word)
    if node is None:
        return UNKNOWN
    live.keep(node, read_test(text))
    return "ok"


def _ask(live, word, told):
    """The answer to an ask of this word at the node that is told."""
    node = _node_in(told)
    if node is None:
        return UNKNOWN
    answer = live.ask((word, node))
    if word == "count" or word == "sum":
        return str(answer)
    return "-" if answer == [] else " ".join([str(number) for number in answer])


def _call(live, word, told):
    """The answer to a line of this word and the number that is told."""
    number = plain_number(told)
    if number is None:
        return UNKNOWN
    if word == "column":
        return _column_text(live, number)
    if word == "drop":
        live.take_document(number)
    else:
        live.undo_to(number)
    return "ok"


def _column_text(live, leaf):
    columns = live.columns()
    if leaf >= len(columns):
        raise InvalidLeaf("a number that is no leaf of the schema")
    return write_column(columns[leaf])


def _node_in(word):
    """The number of a node, or -1, that a word tells, or None."""
    return -1 if word == "-1" else plain_number(word)

"""Texts of columns and of tests: each has just one."""

from levelcolumns.columns import MOST_ENTRIES
from levelcolumns.errors import InvalidText
from levelcolumns.masks import MOST_DEEP

MOST_DIGITS = 60
GREATEST_LEVEL = 99
GREATEST_NODE = 39

# How many tests stand in a test that begins with this word.
TESTS_BEHIND = {"not": 1, "both": 2, "either": 2}


def write_column(column):
    """The text of a list of entries."""
    if column == []:
        return "-"
    return " ".join([_entry_text(entry) for entry in column])


def read_column(text):
    """The list of entries with this text."""
    words = text.split(" ")
    if words[0] == "-":
        if len(words) > 1:
            raise InvalidText(1)
        return []
    entries = []
    for place, word in enumerate(words):
        entry = _entry_in(word)
        if entry is None or place == MOST_ENTRIES:
            raise InvalidText(place)
        entries.append(entry)
    return entries


def write_test(test):
    """The text of a test."""
    if test[0] in TESTS_BEHIND:
        return " ".join([test[0]] + [write_test(inner) for inner in test[1:]])
    word, node, sign, number = test
    return f"{word} {node} {sign} {number}"


def read_test(text):
    """The test with this text."""
    words = text.split(" ")
    test, at = _test_from(words, 0, 1)
    if at < len(words):
        raise InvalidText(at)
    return test


def plain_number(word):
    """The number that one to sixty digits without leading zeros tell, or None."""
    if not 1 <= len(word) <= MOST_DIGITS or not all(["0" <= sign <= "9" for sign in word]):
        return None
    if len(word) > 1 and word[0] == "0":
        return None
    return int(word)


def _signed_number(word):
    """The number that such digits tell, perhaps behind a minus if it is not 0, or None."""
    if not word.startswith("-"):
        return plain_number(word)
    number = plain_number(word[1:])
    if number is None or number == 0:
        return None
    return -number


def _entry_text(entry):
    level, reached, value = entry
    if value is None:
        return f"{level}.{reached}"
    return f"{level}.{reached}={value}"


def _entry_in(word):
    """The entry that a word tells, or None."""
    levels, sign, told = word.partition("=")
    before, _, behind = levels.partition(".")
    level, reached, value = plain_number(before), plain_number(behind), _signed_number(told)
    if level is None or reached is None or level > GREATEST_LEVEL or reached > GREATEST_LEVEL:
        return None
    # Without a sign there is no value to read, and behind one there must be one.
    if (sign == "") != (value is None):
        return None
    return level, reached, value


def _word_at(words, at):
    """The word there; behind the last one an empty word, which stands nowhere."""
    return words[at] if at < len(words) else ""


def _test_from(words, at, level):
    """The test that begins at a word, on this level, and the number of the word behind it."""
    word = _word_at(words, at)
    if level > MOST_DEEP:
        raise InvalidText(at)
    if word == "some" or word == "all":
        return _comparison_from(words, at), at + 4
    if word not in TESTS_BEHIND:
        raise InvalidText(at)
    inner = []
    at += 1
    for _ in range(TESTS_BEHIND[word]):
        test, at = _test_from(words, at, level + 1)
        inner.append(test)
    return (word, *inner), at


def _comparison_from(words, at):
    """The test of four words that begins with "some" or "all" there."""
    node = plain_number(_word_at(words, at + 1))
    if node is None or node > GREATEST_NODE:
        raise InvalidText(at + 1)
    sign = _word_at(words, at + 2)
    if sign != "<" and sign != "=" and sign != ">":
        raise InvalidText(at + 2)
    number = _signed_number(_word_at(words, at + 3))
    if number is None:
        raise InvalidText(at + 3)
    return words[at], node, sign, number

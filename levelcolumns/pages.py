"""Pages of a column, their numbers, and which pages a test of documents must read."""

from levelcolumns.checks import check_leaf
from levelcolumns.columns import MOST_ENTRIES, check_column, column_fault, flat, runs
from levelcolumns.errors import InvalidNumber, InvalidPage, InvalidTest
from levelcolumns.masks import bits_of, is_test
from levelcolumns.schemas import way_of


def page_numbers(schema, leaf, column):
    """The numbers (documents, entries, values, least, greatest) of a whole column as one page."""
    check_column(schema, leaf, column)
    if column == []:
        raise InvalidPage("a column without documents is no page")
    return _numbers_of(column)


def cut_pages(schema, leaf, column, most):
    """The pages of a column, as columns, of so many documents each; the last one has the rest."""
    check_column(schema, leaf, column)
    if type(most) != int or most < 1:
        raise InvalidNumber("a page has one document or more")
    rows = runs(column, 0)
    return [flat(rows[begin:begin + most]) for begin in range(0, len(rows), most)]


def page_state(schema, leaf, numbers, test):
    """Whether a test holds for all ("yes") or no ("no") documents of pages with these numbers, else "read"."""
    _check_arguments(schema, leaf, numbers, test)
    return _state(schema, leaf, numbers, test)


def parted_pages(schema, leaf, numbers, test):
    """Two pages with these numbers that have different booleans for the test; None if the state is not "read"."""
    _check_arguments(schema, leaf, numbers, test)
    if _state(schema, leaf, numbers, test) != "read":
        return None
    # Some sample has a document for which the test holds, some one for which it fails. If
    # all samples have the same booleans, these are mixed, so that they change if the first
    # document becomes the last one.
    pages = _sample_pages(schema, leaf, numbers, test[3])
    rows = runs(pages[0], 0)
    pages.append(flat(rows[1:] + rows[:1]))
    bits = [_bits(schema, leaf, page, test) for page in pages]
    other = [page for page, told in zip(pages, bits) if told != bits[0]][0]
    return pages[0], other


def shows_parted_pages(schema, leaf, numbers, test, thing):
    """Whether any object is two pages with these numbers that have different booleans for the test."""
    _check_arguments(schema, leaf, numbers, test)
    if type(thing) != tuple or len(thing) != 2:
        return False
    for page in thing:
        if not _is_page(schema, leaf, page) or _numbers_of(page) != numbers:
            return False
    return _bits(schema, leaf, thing[0], test) != _bits(schema, leaf, thing[1], test)


def bits_by_pages(schema, leaf, pages, test):
    """(bits, read): the booleans of all documents, and the indices of the pages whose state is "read"."""
    check_leaf(schema, leaf)
    if type(pages) != list or not all([_is_page(schema, leaf, page) for page in pages]):
        raise InvalidPage("what is no list of pages")
    _check_test(schema, leaf, test)
    bits = []
    read = []
    for index, page in enumerate(pages):
        numbers = _numbers_of(page)
        state = _state(schema, leaf, numbers, test)
        if state == "read":
            read.append(index)
            bits.extend(_bits(schema, leaf, page, test))
        else:
            bits.extend([state == "yes"] * numbers[0])
    return bits, read


def _check_arguments(schema, leaf, numbers, test):
    check_leaf(schema, leaf)
    if not _are_numbers(schema, leaf, numbers):
        raise InvalidPage("what is no numbers of a page of the leaf")
    _check_test(schema, leaf, test)


def _check_test(schema, leaf, test):
    """InvalidTest unless test, any object, is "some" or "all" asked of this leaf."""
    if not is_test(schema, -1, test, 1) or test[1] != schema.nodes_of_leaves[leaf]:
        raise InvalidTest("what is no test of the leaf's values alone")


def _is_page(schema, leaf, thing):
    """Whether any object is a column of one or more documents."""
    return column_fault(schema, leaf, thing) is None and len(thing) > 0


def _numbers_of(page):
    values = [entry[2] for entry in page if entry[2] is not None]
    return len(runs(page, 0)), len(page), len(values), min(values, default=None), max(values, default=None)


def _bits(schema, leaf, page, test):
    return bits_of(schema, {leaf: page}, -1, test)


def _are_numbers(schema, leaf, thing):
    """Whether any object is the numbers of some page of the leaf with no more entries than columns have."""
    if type(thing) != tuple or len(thing) != 5:
        return False
    documents, entries, values, least, greatest = thing
    if not all([type(count) == int for count in (documents, entries, values)]):
        return False
    if not 1 <= documents <= entries <= MOST_ENTRIES or not 0 <= values <= entries:
        return False
    way = way_of(schema, schema.nodes_of_leaves[leaf])
    return _can_count(way, documents, entries, values) and _can_limit(values, least, greatest)


def _can_count(way, documents, entries, values):
    """Whether so many documents can have so many entries and values, each document one entry or more."""
    empty = entries - values
    if way == "":
        return entries == documents and empty == 0
    if "l" not in way:
        return entries == documents
    if way.find("l") == len(way) - 1:
        # Each entry without a value is then a document by itself.
        return empty <= documents and (empty < documents or values == 0)
    return True


def _can_limit(values, least, greatest):
    """Whether so many values can have these two as the least and the greatest of them."""
    if values == 0:
        return least is None and greatest is None
    if type(least) != int or type(greatest) != int:
        return False
    return least == greatest if values == 1 else least <= greatest


def _state(schema, leaf, numbers, test):
    bits = []
    for page in _sample_pages(schema, leaf, numbers, test[3]):
        bits.extend(_bits(schema, leaf, page, test))
    if all(bits):
        return "yes"
    return "read" if any(bits) else "no"


def _sample_pages(schema, leaf, numbers, number):
    """Pages with these numbers that show all that may happen in a test with this number.

    If the test holds for a document of any page with the numbers, then for one of
    these pages; if it fails for one, likewise. For the first document has as few
    values as it can have: none, if there is an entry without a value that it can have
    for itself, else a single one, if there are other documents. And a single value,
    or one among all, can show no more than the least one, the greatest one and the
    number itself do.
    """
    _, _, values, least, greatest = numbers
    if values == 0:
        return [_page_of(schema, leaf, numbers, [])]
    rows = [[least] + [greatest] * (values - 1), [greatest] + [least] * (values - 1)]
    if values > 2 and least <= number <= greatest:
        rows.append([number, least] + [greatest] * (values - 2))
    return [_page_of(schema, leaf, numbers, row) for row in rows]


def _page_of(schema, leaf, numbers, row):
    """A page with these values in a row, behind the entries without one; all documents but the last have one entry."""
    documents, entries, values, _, _ = numbers
    way = way_of(schema, schema.nodes_of_leaves[leaf])
    place = way.find("l") + 1
    # Without a value the first list goes on, unless it is the last open node.
    reached = place if place < len(way) else 0
    page = [(0, reached, None)] * (entries - values) + [(0, len(way), value) for value in row]
    begun = page[:documents]
    return begun + [(1, deep, value) for _, deep, value in page[documents:]]

"""A live table: edits and filters that can be taken back step by step."""

from levelcolumns.asks import answered
from levelcolumns.columns import MOST_ENTRIES
from levelcolumns.edits import put_document, put_element, set_maybe, set_value, take_document, take_element
from levelcolumns.errors import InvalidNumber, NothingToUndo, TooLarge
from levelcolumns.fitting import joined
from levelcolumns.masks import filtered, mask


class LiveTable:
    """A table that is edited and filtered, call by call.

    It keeps the columns as they were before each call that can be undone, and for
    each mark how many such calls stood before it.
    """

    def __init__(self, schema):
        self.schema = schema
        self._now = [[] for _ in range(len(schema))]
        self._before = []
        self._marks = []

    def __len__(self):
        return len([entry for entry in self._now[0] if entry[0] == 0])

    def put_element(self, node, path, index, part):
        """Puts a part into a list, where it is the element with this index."""
        self._go_on(put_element(self.schema, self._now, node, path, index, part))

    def take_element(self, node, path, index):
        """Takes the element with this index out of a list."""
        self._go_on(take_element(self.schema, self._now, node, path, index))

    def set_maybe(self, node, path, part):
        """Makes a maybe () or (x,)."""
        self._go_on(set_maybe(self.schema, self._now, node, path, part))

    def set_value(self, node, path, part):
        """Puts another integer in the place of a value."""
        self._go_on(set_value(self.schema, self._now, node, path, part))

    def put_document(self, index, part):
        """Puts in a document, where it has this index."""
        self._go_on(put_document(self.schema, self._now, index, part))

    def take_document(self, index):
        """Takes out the document with this index."""
        self._go_on(take_document(self.schema, self._now, index))

    def keep(self, node, test):
        """Keeps just the elements of a list's node, or the documents, for which the test holds."""
        bits = mask(self.schema, self._now, node, test)
        self._go_on(filtered(self.schema, self._now, node, bits))

    def columns(self):
        """The columns of the table."""
        return [list(column) for column in self._now]

    def table(self):
        """The table."""
        return joined(self.schema, self._now)

    def ask(self, ask):
        """The answer to an ask."""
        leaves = list(range(len(self.schema)))
        return answered(self.schema, leaves, self._now, ask)

    def undo(self):
        """Undoes the last edit or keep, with the marks that were made after it."""
        if self._before == []:
            raise NothingToUndo("no edit and no keep is left")
        self._now = self._before.pop()
        self._marks = [calls for calls in self._marks if calls <= len(self._before)]

    def mark(self):
        """The number of a new mark."""
        self._marks.append(len(self._before))
        return len(self._marks) - 1

    def undo_to(self, index):
        """Undoes the calls behind a mark, and removes later marks."""
        if type(index) != int or not 0 <= index < len(self._marks):
            raise InvalidNumber("a number that is no mark")
        calls = self._marks[index]
        if calls < len(self._before):
            self._now = self._before[calls]
        self._before = self._before[:calls]
        self._marks = self._marks[:index + 1]

    def twin(self):
        """An independent copy, with what can be undone and the marks."""
        other = LiveTable(self.schema)
        other._now = self._now
        other._before = list(self._before)
        other._marks = list(self._marks)
        return other

    def _go_on(self, columns):
        """Takes new columns as those of the table; TooLarge if one of them is too long."""
        if max([len(column) for column in columns]) > MOST_ENTRIES:
            raise TooLarge("a column of the table would have more entries than it may have")
        self._before.append(self._now)
        self._now = columns

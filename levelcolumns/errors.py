"""The errors of the package: one class for each kind of failure."""


class ColumnError(ValueError):
    """What every error of this package is."""


class InvalidLeaf(ColumnError):
    """A number that is no leaf, or an object that is no fitting list of leaves."""


class InvalidNode(ColumnError):
    """A number that is no node, or a node of another kind than the one asked for."""


class InvalidNeeded(ColumnError):
    """An object that is no list of needed nodes."""


class InvalidLengths(ColumnError):
    """An object that is no list of lengths of columns."""


class InvalidTest(ColumnError):
    """An object that is no test there."""


class InvalidAsk(ColumnError):
    """An object that is no ask."""


class InvalidMask(ColumnError):
    """An object that is no list of booleans, one for each element."""


class InvalidPath(ColumnError):
    """An object that is no path to the node, or an index that leads nowhere."""


class InvalidPart(ColumnError):
    """An object that is no part of a document there."""


class InvalidField(ColumnError):
    """An object that is no new name of a field."""


class InvalidPage(ColumnError):
    """An object that is no numbers of a page, no list of pages, or a page of nothing."""


class InvalidNumber(ColumnError):
    """An integer beyond what it may be."""


class TooLarge(ColumnError):
    """A result beyond a limit of the package."""


class NothingToUndo(ColumnError):
    """An undo where no edit is left."""


class InvalidText(ColumnError):
    """A text that cannot be read; place tells where it goes wrong."""

    def __init__(self, place):
        super().__init__(f"the text goes wrong at {place}")
        self.place = place


class InvalidTable(ColumnError):
    """An object that is no table; index is that of the first wrong element, or -1."""

    def __init__(self, index):
        super().__init__(f"no table: element {index}")
        self.index = index


class NotEnough(ColumnError):
    """Leaves that do not tell what happens at a needed node."""

    def __init__(self, node):
        super().__init__(f"the leaves do not tell of node {node}")
        self.node = node


class InvalidColumns(ColumnError):
    """A column that is none of its leaf; entry is the first wrong one, or -1."""

    def __init__(self, leaf, entry):
        super().__init__(f"no column of leaf {leaf}: entry {entry}")
        self.leaf = leaf
        self.entry = entry


class NotFitting(ColumnError):
    """Columns that are not those of one table; entry is where that of leaf differs."""

    def __init__(self, leaf, entry):
        super().__init__(f"the column of leaf {leaf} does not fit at entry {entry}")
        self.leaf = leaf
        self.entry = entry


class NotSingle(ColumnError):
    """A maybe that is missing, or a list that has not just one element."""

    def __init__(self, leaf, entry):
        super().__init__(f"not just one: leaf {leaf}, entry {entry}")
        self.leaf = leaf
        self.entry = entry

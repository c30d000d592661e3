"""Reads the text of a schema, sign by sign, into the lists of its nodes."""

from levelcolumns.errors import InvalidText

MOST_LEAVES = 12
MOST_NODES = 40
MOST_SIGNS = 400
MOST_ABOVE = 20
MOST_OPEN_ABOVE = 8
MOST_LETTERS = 8

KIND_OF_SIGN = {"v": "value", "?": "maybe", "[": "list", "{": "record"}


class SchemaReader:
    """Goes once through a text; at is the place of the next sign.

    Whatever is wrong is wrong at the next sign: it cannot stand there, it goes
    beyond a limit, or the text ends there too early. So all errors tell at.
    """

    def __init__(self, text):
        self.signs = text
        self.at = 0
        self.kinds = []
        self.parents = []
        self.names = []
        self.children = []
        self.begins = []
        self.ends = []

    def read_all(self):
        """Reads the one schema that the text is, or raises InvalidText."""
        self._read_node(-1, None, 0, 0)
        if self.at < len(self.signs):
            raise InvalidText(self.at)

    def _next_sign(self):
        """The next sign; an empty string, which stands nowhere, if there may be none."""
        if self.at < len(self.signs) and self.at < MOST_SIGNS:
            return self.signs[self.at]
        return ""

    def _take(self, sign):
        if self._next_sign() != sign:
            raise InvalidText(self.at)
        self.at += 1

    def _can_begin(self, sign, above, open_above):
        """Whether a node with this first sign can stand below so many (open) nodes."""
        if sign not in KIND_OF_SIGN or len(self.kinds) == MOST_NODES:
            return False
        if sign == "v":
            return self.kinds.count("value") < MOST_LEAVES
        if above == MOST_ABOVE:
            return False
        return sign == "{" or open_above < MOST_OPEN_ABOVE

    def _read_node(self, parent, name, above, open_above):
        sign = self._next_sign()
        if not self._can_begin(sign, above, open_above):
            raise InvalidText(self.at)
        node = self._add_node(KIND_OF_SIGN[sign], parent, name)
        self.at += 1
        if sign == "{":
            self._read_fields(node, above + 1, open_above)
        elif sign != "v":
            self._read_node(node, None, above + 1, open_above + 1)
        if sign == "[":
            self._take("]")
        self.ends[node] = self.at

    def _add_node(self, kind, parent, name):
        node = len(self.kinds)
        self.kinds.append(kind)
        self.parents.append(parent)
        self.names.append(name)
        self.children.append([])
        self.begins.append(self.at)
        self.ends.append(self.at)
        if parent >= 0:
            self.children[parent].append(node)
        return node

    def _read_fields(self, node, above, open_above):
        taken = {}
        more = True
        while more:
            name = self._read_name(taken)
            taken[name] = True
            self._read_node(node, name, above, open_above)
            more = self._next_sign() == " "
            if more:
                self.at += 1
        self._take("}")

    def _read_name(self, taken):
        begin = self.at
        while self.at - begin < MOST_LETTERS and "a" <= self._next_sign() <= "z":
            self.at += 1
        name = self.signs[begin:self.at]
        # A name that is taken could still grow longer, so it is told behind its last letter.
        if name == "" or name in taken:
            raise InvalidText(self.at)
        self._take(":")
        return name

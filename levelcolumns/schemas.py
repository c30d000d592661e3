"""Schemas: their nodes, leaves and ways, cut ones, and leaves of two that match."""

from levelcolumns.checks import check_leaf, check_leaves, check_node
from levelcolumns.reading import SchemaReader

SIGN_IN_WAY = {"list": "l", "maybe": "m"}


class Schema:
    """A schema, read from its text. It does not change.

    For the other files of the package it keeps, by the numbers of the nodes,
    their kinds, the node above each (-1 above the first), its name in the record
    above it (None elsewhere), the nodes directly below it, where it begins and ends
    in the text, the leaves at or below it, its k and c, and by the numbers of the
    leaves their nodes.
    """

    def __init__(self, text):
        reader = SchemaReader(text)
        reader.read_all()
        self._text = text
        self.node_kinds = tuple(reader.kinds)
        self.parents = tuple(reader.parents)
        self.names = tuple(reader.names)
        self.children = tuple([tuple(below) for below in reader.children])
        self.spans = tuple(zip(reader.begins, reader.ends))
        self.nodes_of_leaves = tuple([node for node, kind in enumerate(reader.kinds) if kind == "value"])
        self.leaves_of_nodes = tuple([_leaves_from(self, node) for node in range(len(reader.kinds))])
        self.levels = tuple([_count_levels(self, node) for node in range(len(reader.kinds))])

    @property
    def text(self):
        """The text that the schema was made of."""
        return self._text

    def __len__(self):
        return len(self.nodes_of_leaves)

    def __eq__(self, other):
        return isinstance(other, Schema) and self._text == other._text


def kinds(schema):
    """For each node "value", "maybe", "list" or "record"."""
    return list(schema.node_kinds)


def leaf_nodes(schema):
    """For each leaf its node."""
    return list(schema.nodes_of_leaves)


def way_of(schema, node):
    """The way of a node, or of the table (-1): a sign for each open node down to it."""
    check_node(schema, node, -1)
    signs = [SIGN_IN_WAY[schema.node_kinds[above]] for above in open_line_to(schema, node)]
    return "".join(signs)


def meeting(schema, leaf, second):
    """The lowest node at or above both leaves."""
    check_leaf(schema, leaf)
    check_leaf(schema, second)
    first_line = line_to(schema, schema.nodes_of_leaves[leaf])
    second_line = line_to(schema, schema.nodes_of_leaves[second])
    above_both = [node for node, other in zip(first_line, second_line) if node == other]
    return above_both[-1]


def cut(schema, leaves):
    """The schema of these leaves alone."""
    check_leaves(schema, leaves)
    return Schema(_cut_text(schema, 0, kept_nodes(schema, leaves)))


def matching(schema, other):
    """The least list of leaves of other that match those of schema one by one, or None."""
    codes = {}
    other_codes = {}
    if sorted(_note_codes(schema, 0, codes)) != sorted(_note_codes(other, 0, other_codes)):
        return None
    other_lines = [_way_line(other, node) for node in other.nodes_of_leaves]
    partners = {}
    takers = {}
    matched = []
    # Partners with equal codes leave equal codes for the rest. So each choice can be
    # completed: the first leaf that can be taken is the least, and stays taken.
    for node in schema.nodes_of_leaves:
        line = _way_line(schema, node)
        tries = [list(zip(line, other_line)) for other_line in other_lines]
        possible = [_can_pair(pairs, partners, takers, codes, other_codes) for pairs in tries]
        leaf = possible.index(True)
        for own, partner in tries[leaf]:
            partners[own] = partner
            takers[partner] = own
        matched.append(leaf)
    return matched


def line_to(schema, node):
    """The nodes from the top down to this one, itself included; none for the table."""
    line = []
    while node >= 0:
        line.append(node)
        node = schema.parents[node]
    return line[::-1]


def open_line_to(schema, node):
    """The lists and maybes from the top down to this node, itself included."""
    return [above for above in line_to(schema, node) if schema.node_kinds[above] in SIGN_IN_WAY]


def levels_of(schema, node):
    """k and c of a node, or of the table: how many open nodes and how many lists its way has."""
    if node < 0:
        return 0, 0
    return schema.levels[node]


def leaves_below(schema, node):
    """The leaves at or below a node, or below the table."""
    if node < 0:
        return tuple(range(len(schema)))
    return schema.leaves_of_nodes[node]


def kept_nodes(schema, leaves):
    """The nodes with one of the leaves at or below them, as the keys of a dict."""
    return {node: True for leaf in leaves for node in line_to(schema, schema.nodes_of_leaves[leaf])}


def _leaves_from(schema, node):
    return tuple([leaf for leaf, place in enumerate(schema.nodes_of_leaves) if node in line_to(schema, place)])


def _count_levels(schema, node):
    line = open_line_to(schema, node)
    return len(line), len([above for above in line if schema.node_kinds[above] == "list"])


def _cut_text(schema, node, kept):
    """The text of the schema at a node, without the fields that are not kept."""
    kind = schema.node_kinds[node]
    if kind == "value":
        return "v"
    if kind == "maybe":
        return "?" + _cut_text(schema, node + 1, kept)
    if kind == "list":
        return "[" + _cut_text(schema, node + 1, kept) + "]"
    fields = [(schema.names[below], below) for below in schema.children[node] if below in kept]
    texts = [name + ":" + _cut_text(schema, below, kept) for name, below in fields]
    return "{" + " ".join(texts) + "}"


def _way_line(schema, node):
    """The open nodes above the node of a leaf, and this node itself."""
    return open_line_to(schema, node) + [node]


def _note_codes(schema, node, codes):
    """Puts into codes, for each open node and value from a node down, what stands there.

    Two nodes have the same code just if the open nodes and values there are built
    alike, whatever their sequence and the records between them. Returns the codes
    of the highest ones.
    """
    kind = schema.node_kinds[node]
    highest = []
    for below in schema.children[node]:
        highest.extend(_note_codes(schema, below, codes))
    if kind == "record":
        return highest
    codes[node] = "v"
    if kind != "value":
        codes[node] = SIGN_IN_WAY[kind] + "(" + "".join(sorted(highest)) + ")"
    return [codes[node]]


def _can_pair(pairs, partners, takers, codes, other_codes):
    """Whether all the pairs of nodes can become partners, or are partners already.

    A value has another code than an open node, so a pair of lines that end at
    different depths fails at the end of the shorter one.
    """
    for own, other in pairs:
        if partners.get(own, other) != other or takers.get(other, own) != own:
            return False
        if codes[own] != other_codes[other]:
            return False
    return True

"""Schemas as trees, built and looked through without the package.

A tree is ("v",), ("?", tree), ("[", tree) or ("{", [(name, tree), ..]).
"""

import random

EXAMPLE = "{name:v tags:[v] at:?{x:v y:[v]}}"

DEEP = "{a:[?[v]] b:?{c:[{d:v e:?v f:{g:[v]}}] h:v} i:??[[?v]]}"

TWELVE = "{" + " ".join(name + ":v" for name in "abcdefghijkl") + "}"

# Objects that are no list of leaves, no table, no document of any schema.
OTHER_OBJECTS = [None, True, False, 0, 1, -1, 10 ** 59, "", "v", "0", (), (0,), (0, 1), {}, {"a": 0}, {"0": [0]}]


def text_of(tree):
    if tree[0] == "v":
        return "v"
    if tree[0] == "?":
        return "?" + text_of(tree[1])
    if tree[0] == "[":
        return "[" + text_of(tree[1]) + "]"
    return "{" + " ".join(f"{name}:{text_of(below)}" for name, below in tree[1]) + "}"


def nodes_of(tree):
    """For each node its sign and the list of the nodes from the top down to it."""
    found = []

    def walk(part, line):
        line = line + [len(found)]
        found.append((part[0], line))
        if part[0] in "?[":
            walk(part[1], line)
        if part[0] == "{":
            for _, below in part[1]:
                walk(below, line)

    walk(tree, [])
    return found


def leaves_of(tree):
    return [node for node, (sign, _) in enumerate(nodes_of(tree)) if sign == "v"]


def way_in(tree, node):
    found = nodes_of(tree)
    if node == -1:
        return ""
    return "".join({"?": "m", "[": "l"}.get(found[above][0], "") for above in found[node][1])


def meeting_in(tree, leaf, second):
    found = nodes_of(tree)
    places = leaves_of(tree)
    return max(set(found[places[leaf]][1]) & set(found[places[second]][1]))


def open_above_both(tree, leaf, second):
    found = nodes_of(tree)
    return len([node for node in found[meeting_in(tree, leaf, second)][1] if found[node][0] in "?["])


def cut_tree(tree, leaves):
    """The tree without the leaves that are not listed."""
    counted = [0]

    def walk(part):
        if part[0] == "v":
            counted[0] += 1
            return part if counted[0] - 1 in leaves else None
        if part[0] in "?[":
            below = walk(part[1])
            return below and (part[0], below)
        fields = [(name, walk(below)) for name, below in part[1]]
        kept = [(name, below) for name, below in fields if below]
        return ("{", kept) if kept else None

    return walk(tree)


def random_tree(rng, many, depth=0, opened=0):
    """A tree with so many leaves, within the limits of a schema."""
    if many == 1 and (depth > 6 or rng.random() < 0.4):
        return ("v",)
    if opened < 5 and rng.random() < 0.5:
        return (rng.choice("?["), random_tree(rng, many, depth + 1, opened + 1))
    fields = []
    while many:
        part = rng.randint(1, many) if depth < 5 else 1
        many -= part
        fields.append((f"{rng.choice('qvz')}{'abcdefghijklm'[len(fields)]}",
                       random_tree(rng, part, depth + 1, opened)))
    return ("{", fields)


def random_trees(many, seed, most_leaves=12):
    rng = random.Random(seed)
    trees = []
    while len(trees) < many:
        tree = random_tree(rng, rng.randint(1, most_leaves))
        if len(nodes_of(tree)) <= 40 and len(text_of(tree)) <= 400:
            trees.append(tree)
    return trees


def random_document(rng, tree):
    if tree[0] == "v":
        return rng.choice([0, 1, -1, 7, -10 ** 59])
    if tree[0] == "?":
        return (random_document(rng, tree[1]),) if rng.random() < 0.7 else ()
    if tree[0] == "[":
        return [random_document(rng, tree[1]) for _ in range(rng.choice([0, 1, 1, 2, 3]))]
    fields = list(tree[1])
    rng.shuffle(fields)
    return {name: random_document(rng, below) for name, below in fields}


def cut_document(tree, document):
    """The document of a cut tree that keeps the same objects, and no other fields."""
    if tree[0] == "v":
        return document
    if tree[0] == "?":
        return tuple(cut_document(tree[1], inner) for inner in document)
    if tree[0] == "[":
        return [cut_document(tree[1], inner) for inner in document]
    return {name: cut_document(below, document[name]) for name, below in tree[1]}


def steps_to(tree, leaf):
    """The steps from the top down to a leaf: "?", "[" or the name of a field."""
    found = []

    def walk(part, steps):
        if part[0] == "v":
            found.append(steps)
        elif part[0] == "{":
            for name, below in part[1]:
                walk(below, steps + [name])
        else:
            walk(part[1], steps + [part[0]])

    walk(tree, [])
    return found[leaf]


def ends_in(steps, part):
    """The ends below a part, each with its place at every open step (None where it does not go on)."""
    if not steps:
        return [([], part)]
    if steps[0] not in "?[":
        return ends_in(steps[1:], part[steps[0]])
    if not part:
        return [([None], None)]
    return [([at] + places, value) for at, inner in enumerate(part) for places, value in ends_in(steps[1:], inner)]


def column_in(tree, leaf, table):
    """The column of a leaf, by comparing the places of each end with those of the end before."""
    steps = steps_to(tree, leaf)
    signs = [step for step in steps if step in ("?", "[")]
    column = []
    for document in table:
        before = None
        for places, value in ends_in(steps, document):
            level = 0
            if before is not None:
                differ = min(at for at, (one, other) in enumerate(zip(places, before)) if one != other)
                level = signs[:differ + 1].count("[")
            column.append((level, len(places) - places.count(None), value))
            before = places
    return column


def columns_in(tree, table):
    return [column_in(tree, leaf, table) for leaf in range(len(leaves_of(tree)))]


def prefix_in(tree, column, node):
    way = way_in(tree, node)
    return [(level, min(deep, len(way))) for level, deep, _ in column if level <= way.count("l")]


def fit_in(tree, columns, leaf, second):
    node = meeting_in(tree, leaf, second)
    return prefix_in(tree, columns[leaf], node) == prefix_in(tree, columns[second], node)


def redrawn(rng, tree, part):
    """A document with some parts drawn once more."""
    if rng.random() < 0.1:
        return random_document(rng, tree)
    if tree[0] == "v":
        return part
    if tree[0] == "?":
        return tuple(redrawn(rng, tree[1], inner) for inner in part)
    if tree[0] == "[":
        return [redrawn(rng, tree[1], inner) for inner in part]
    return {name: redrawn(rng, below, part[name]) for name, below in tree[1]}


def mixed_columns(rng, tree, documents=2, tables=3):
    """A column for each leaf, each of one of a few tables that are not very different."""
    table = [random_document(rng, tree) for _ in range(documents)]
    choice = [table] + [[redrawn(rng, tree, part) for part in table] for _ in range(tables - 1)]
    return [column_in(tree, leaf, rng.choice(choice)) for leaf in range(len(leaves_of(tree)))]


def tree_of(text):
    """The tree of a schema's text."""
    at = [0]

    def walk():
        sign = text[at[0]]
        at[0] += 1
        if sign == "v":
            return ("v",)
        if sign == "?":
            return ("?", walk())
        if sign == "[":
            below = walk()
            at[0] += 1
            return ("[", below)
        fields = []
        while text[at[0] - 1] != "}":
            colon = text.index(":", at[0])
            name = text[at[0]:colon]
            at[0] = colon + 1
            fields.append((name, walk()))
            at[0] += 1
        return ("{", fields)

    return walk()


def steps_above(tree, node):
    """The steps from the top down to a node, the node itself not among them."""
    found = []

    def walk(part, steps):
        found.append(steps)
        if part[0] in "?[":
            walk(part[1], steps + [part[0]])
        if part[0] == "{":
            for name, below in part[1]:
                walk(below, steps + [name])

    walk(tree, [])
    return found[node]


def reached(steps, part):
    """The parts that stand at the end of the steps, in order."""
    if not steps:
        return [part]
    if steps[0] not in "?[":
        return reached(steps[1:], part[steps[0]])
    return [found for inner in part for found in reached(steps[1:], inner)]


def parts_at(tree, node, table):
    """What stands at a node in all documents, in order; the documents for the table."""
    if node == -1:
        return list(table)
    return [found for part in table for found in reached(steps_above(tree, node), part)]


def pieces_at(tree, node, table):
    """The single pieces that a test is asked of: the documents, or what stands in the lists of a node."""
    if node == -1:
        return list(table)
    return [piece for part in parts_at(tree, node, table) for piece in part]


def holds(tree, node, test, piece):
    """Whether a test holds for a document, or for what stands in a list."""
    if test[0] == "not":
        return not holds(tree, node, test[1], piece)
    if test[0] == "both":
        return holds(tree, node, test[1], piece) and holds(tree, node, test[2], piece)
    if test[0] == "either":
        return holds(tree, node, test[1], piece) or holds(tree, node, test[2], piece)
    word, place, sign, number = test
    steps = steps_above(tree, place)
    if node != -1:
        steps = steps[len(steps_above(tree, node)) + 1:]
    answers = [{"<": value < number, "=": value == number, ">": value > number}[sign]
               for value in reached(steps, piece)]
    return True in answers if word == "some" else False not in answers


def with_bits(tree, node, table, bits):
    """The table in which just the pieces with True stay."""
    stays = iter(bits)
    if node == -1:
        return [part for part in table if next(stays)]

    def keep(steps, part):
        if not steps:
            return [piece for piece in part if next(stays)]
        if steps[0] not in "?[":
            return dict(part, **{steps[0]: keep(steps[1:], part[steps[0]])})
        return type(part)([keep(steps[1:], inner) for inner in part])

    return [keep(steps_above(tree, node), part) for part in table]


def ordered(tree, part):
    """The part with the names in the order of the tree."""
    if tree[0] == "v":
        return part
    if tree[0] in "?[":
        return type(part)(ordered(tree[1], inner) for inner in part)
    return {name: ordered(below, part[name]) for name, below in tree[1]}


def filter_nodes(tree):
    """The table and all lists."""
    return [-1] + [node for node, (sign, _) in enumerate(nodes_of(tree)) if sign == "["]


def value_nodes_under(tree, node):
    found = nodes_of(tree)
    return [place for place in leaves_of(tree) if node == -1 or node in found[place][1]]


def random_test(rng, tree, node, deep=4):
    """A test below a node."""
    word = rng.choice(["some", "all", "some", "all", "not", "both", "either"]) if deep > 1 else "some"
    if word in ("some", "all"):
        return word, rng.choice(value_nodes_under(tree, node)), rng.choice("<=>"), rng.choice([-1, 0, 1, 7, 8])
    many = 1 if word == "not" else 2
    return (word,) + tuple(random_test(rng, tree, node, deep - 1) for _ in range(many))


def told_in(tree, table, ask):
    """The answer to an ask, looked up in the documents."""
    if ask[0] == "where":
        bits = [holds(tree, ask[1], ask[2], piece) for piece in pieces_at(tree, ask[1], table)]
        return told_in(tree, with_bits(tree, ask[1], table, bits), ask[3])
    word, node = ask
    parts = parts_at(tree, node, table)
    if word == "count":
        opened = node != -1 and nodes_of(tree)[node][0] in "?["
        return sum(len(part) for part in parts) if opened else len(parts)
    if word == "lengths":
        return [len(part) for part in parts]
    if word == "there":
        return [part != () for part in parts]
    if word == "sum":
        return sum(parts)
    if word == "least":
        return min(parts, default=None)
    if word == "greatest":
        return max(parts, default=None)
    return parts


def needs_in(tree, ask):
    """The needed nodes of an ask, the table first."""
    def places(test):
        if test[0] in ("some", "all"):
            return [test[1]]
        return [place for inner in test[1:] for place in places(inner)]

    found = nodes_of(tree)
    if ask[0] == "where":
        return sorted(set(needs_in(tree, ask[3]) + places(ask[2])))
    if ask[0] != "count":
        return [-1, ask[1]]
    line = found[ask[1]][1] if ask[1] >= 0 else []
    return sorted({-1, max([-1] + [above for above in line if found[above][0] in "?["])})


def random_ask(rng, tree, deep=4):
    """An ask, not deeper than that."""
    if deep > 1 and rng.random() < 0.5:
        node = rng.choice(filter_nodes(tree))
        return "where", node, random_test(rng, tree, node, 3), random_ask(rng, tree, deep - 1)
    found = nodes_of(tree)
    node = rng.randrange(-1, len(found))
    if node == -1:
        return "count", node
    words = {"v": ["values", "sum", "least", "greatest"], "[": ["lengths"], "?": ["there"], "{": []}[found[node][0]]
    return rng.choice(words + ["count"]), node

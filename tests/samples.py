"""Schemas as trees, built and looked through without the package.

A tree is ("v",), ("?", tree), ("[", tree) or ("{", [(name, tree), ..]).
"""

import random

EXAMPLE = "{name:v tags:[v] at:?{x:v y:[v]}}"

DEEP = "{a:[?[v]] b:?{c:[{d:v e:?v f:{g:[v]}}] h:v} i:??[[?v]]}"

TWELVE = "{" + " ".join(name + ":v" for name in "abcdefghijkl") + "}"

# Objects that are no list of leaves, no table, no document of any schema.
OTHER_OBJECTS = [None, True, False, 0, 1, -1, 10 ** 59, "", "v", "0", (), (0,), (0, 1), {}, {"a": 0}, {"0": [0]}]


def text_of(tree):
    if tree[0] == "v":
        return "v"
    if tree[0] == "?":
        return "?" + text_of(tree[1])
    if tree[0] == "[":
        return "[" + text_of(tree[1]) + "]"
    return "{" + " ".join(f"{name}:{text_of(below)}" for name, below in tree[1]) + "}"


def nodes_of(tree):
    """For each node its sign and the list of the nodes from the top down to it."""
    found = []

    def walk(part, line):
        line = line + [len(found)]
        found.append((part[0], line))
        if part[0] in "?[":
            walk(part[1], line)
        if part[0] == "{":
            for _, below in part[1]:
                walk(below, line)

    walk(tree, [])
    return found


def leaves_of(tree):
    return [node for node, (sign, _) in enumerate(nodes_of(tree)) if sign == "v"]


def way_in(tree, node):
    found = nodes_of(tree)
    if node == -1:
        return ""
    return "".join({"?": "m", "[": "l"}.get(found[above][0], "") for above in found[node][1])


def meeting_in(tree, leaf, second):
    found = nodes_of(tree)
    places = leaves_of(tree)
    return max(set(found[places[leaf]][1]) & set(found[places[second]][1]))


def open_above_both(tree, leaf, second):
    found = nodes_of(tree)
    return len([node for node in found[meeting_in(tree, leaf, second)][1] if found[node][0] in "?["])


def cut_tree(tree, leaves):
    """The tree without the leaves that are not listed."""
    counted = [0]

    def walk(part):
        if part[0] == "v":
            counted[0] += 1
            return part if counted[0] - 1 in leaves else None
        if part[0] in "?[":
            below = walk(part[1])
            return below and (part[0], below)
        fields = [(name, walk(below)) for name, below in part[1]]
        kept = [(name, below) for name, below in fields if below]
        return ("{", kept) if kept else None

    return walk(tree)


def random_tree(rng, many, depth=0, opened=0):
    """A tree with so many leaves, within the limits of a schema."""
    if many == 1 and (depth > 6 or rng.random() < 0.4):
        return ("v",)
    if opened < 5 and rng.random() < 0.5:
        return (rng.choice("?["), random_tree(rng, many, depth + 1, opened + 1))
    fields = []
    while many:
        part = rng.randint(1, many) if depth < 5 else 1
        many -= part
        fields.append((f"{rng.choice('qvz')}{'abcdefghijklm'[len(fields)]}",
                       random_tree(rng, part, depth + 1, opened)))
    return ("{", fields)


def random_trees(many, seed, most_leaves=12):
    rng = random.Random(seed)
    trees = []
    while len(trees) < many:
        tree = random_tree(rng, rng.randint(1, most_leaves))
        if len(nodes_of(tree)) <= 40 and len(text_of(tree)) <= 400:
            trees.append(tree)
    return trees


def random_document(rng, tree):
    if tree[0] == "v":
        return rng.choice([0, 1, -1, 7, -10 ** 59])
    if tree[0] == "?":
        return (random_document(rng, tree[1]),) if rng.random() < 0.7 else ()
    if tree[0] == "[":
        return [random_document(rng, tree[1]) for _ in range(rng.choice([0, 1, 1, 2, 3]))]
    fields = list(tree[1])
    rng.shuffle(fields)
    return {name: random_document(rng, below) for name, below in fields}


def cut_document(tree, document):
    """The document of a cut tree that keeps the same objects, and no other fields."""
    if tree[0] == "v":
        return document
    if tree[0] == "?":
        return tuple(cut_document(tree[1], inner) for inner in document)
    if tree[0] == "[":
        return [cut_document(tree[1], inner) for inner in document]
    return {name: cut_document(below, document[name]) for name, below in tree[1]}

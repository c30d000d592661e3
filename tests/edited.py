"""Documents that are edited, and trees that are changed, without the package."""

import random

from levelcolumns.schemas import Schema
from tests.samples import (ends_in, nodes_of, ordered, random_document, random_trees, steps_above, steps_to, text_of,
                           way_in)


def drawn(seed, many, most_leaves=8, most_documents=4):
    """Schemas and tables: the random source, the tree, the schema, the table."""
    rng = random.Random(seed)
    for tree in random_trees(many, seed=seed + 1, most_leaves=most_leaves):
        table = [ordered(tree, random_document(rng, tree)) for _ in range(rng.randint(0, most_documents))]
        yield rng, tree, Schema(text_of(tree)), table


def places_of(tree, node, table):
    """All paths that lead to a node, each with the part that stands there."""
    if node == -1:
        return [((index,), document) for index, document in enumerate(table)]

    def walk(steps, part, path):
        if not steps:
            return [(path, part)]
        if steps[0] == "[":
            return [found for at, inner in enumerate(part) for found in walk(steps[1:], inner, path + (at,))]
        if steps[0] == "?":
            return [found for inner in part for found in walk(steps[1:], inner, path)]
        return walk(steps[1:], part[steps[0]], path)

    steps = steps_above(tree, node)
    return [found for index, document in enumerate(table) for found in walk(steps, document, (index,))]


def with_part(tree, table, node, path, part):
    """The table with another part at the end of a path."""
    def put(steps, old, left):
        if not steps:
            return part
        if steps[0] == "[":
            return [put(steps[1:], inner, left[1:]) if at == left[0] else inner for at, inner in enumerate(old)]
        if steps[0] == "?":
            return (put(steps[1:], old[0], left),)
        return dict(old, **{steps[0]: put(steps[1:], old[steps[0]], left)})

    steps = steps_above(tree, node)
    return [put(steps, document, path[1:]) if index == path[0] else document
            for index, document in enumerate(table)]


def with_each_part(tree, table, node, change):
    """The table with each part at a node changed."""
    def put(steps, old):
        if not steps:
            return change(old)
        if steps[0] in "?[":
            return type(old)([put(steps[1:], inner) for inner in old])
        return dict(old, **{steps[0]: put(steps[1:], old[steps[0]])})

    steps = steps_above(tree, node)
    return [put(steps, document) for document in table]


def tree_with(tree, node, change):
    """The tree with what stands at a node changed."""
    met = [-1]

    def walk(part):
        met[0] += 1
        if met[0] == node:
            return change(part)
        if part[0] in "?[":
            return part[0], walk(part[1])
        if part[0] == "{":
            return "{", [(name, walk(below)) for name, below in part[1]]
        return part

    # Behind the changed node the numbers no longer agree, but no node has this one again.
    return walk(tree)


def tree_at(tree, node):
    """What stands at a node of a tree."""
    found = []

    def walk(part):
        found.append(part)
        if part[0] in "?[":
            walk(part[1])
        if part[0] == "{":
            for _, below in part[1]:
                walk(below)

    walk(tree)
    return found[node]


def nodes_with(tree, signs):
    """The nodes whose signs are among these."""
    return [node for node, (sign, _) in enumerate(nodes_of(tree)) if sign in signs]


def way_above(tree, node):
    """The way of what is above a node."""
    line = nodes_of(tree)[node][1] if node >= 0 else [-1]
    return way_in(tree, line[-2]) if len(line) > 1 else ""


def all_ends(tree, leaf, table):
    """For each entry of a leaf's column: the index of the document, and the places at each open step."""
    steps = steps_to(tree, leaf)
    return [([index] + places) for index, document in enumerate(table) for places, _ in ends_in(steps, document)]


def stretch_in(tree, leaf, table, node, path):
    """The stretch of a leaf's column for a node at the end of a path, or None if it leads nowhere."""
    way = way_above(tree, node)
    if type(path) is not tuple or len(path) != 1 + way.count("l"):
        return None
    if any(type(index) is not int for index in path):
        return None
    found = []
    for index, ends in enumerate(all_ends(tree, leaf, table)):
        above = ends[1:len(way) + 1]
        listed = [place for place, sign in zip(above, way) if sign == "l"]
        if None not in above and (ends[0],) + tuple(listed) == path:
            found.append(index)
    if not found:
        return None
    assert found == list(range(found[0], found[-1] + 1))
    return found[0], found[-1] + 1

"""Point 2: any objects in the places that may have them end in a result or in a named error."""

import random
import unittest

from levelcolumns import (asks, columns, counts, documents, edits, errors, evolve, fitting, live, machines, masks,
                          misfits, packing, pages, questions, schemas)
from tests.edited import nodes_with, places_of, tree_at
from tests.samples import (columns_in, filter_nodes, leaves_of, nodes_of, ordered, pieces_at, random_ask,
                           random_document, random_test, random_trees, text_of)

ATOMS = [0, 1, -1, 2, 3, 10 ** 59, True, False, None, "", "some", "all", "not", "both", "count", "where", "values",
         "<", "=", "a", (), [], {}, schemas.Schema("v"), errors.InvalidLeaf("0")]


def changed(rng, thing):
    """The object with one or some of its parts replaced, left out, doubled, or put into another kind."""
    if rng.random() < 0.15:
        return rng.choice(ATOMS + [[thing], (thing,), {"a": thing}, [thing, thing], (thing, thing)])
    if type(thing) in (list, tuple) and thing:
        parts = list(thing)
        at = rng.randrange(len(parts))
        draw = rng.random()
        if draw < 0.1:
            parts = parts[:at] + parts[at + 1:]
        elif draw < 0.2:
            parts = parts[:at] + [parts[at]] + parts[at:]
        elif draw < 0.3:
            parts = parts[::-1]
        else:
            parts[at] = changed(rng, parts[at])
        if rng.random() < 0.05:
            return tuple(parts) if type(thing) is list else parts
        return type(thing)(parts)
    if type(thing) is dict and thing:
        name = rng.choice(list(thing))
        return dict(thing, **{rng.choice([name, name, name, "zz"]): changed(rng, thing[name])})
    return rng.choice(ATOMS)


def all_entries(schema, leaves, rows):
    return list(machines.entries_of(schema, leaves, rows))


def arguments_of_edits(rng, tree, table):
    """Valid arguments of each edit that needs a path: the name and the arguments behind the columns."""
    found = []
    for sign, name in [("[", "put_element"), ("[", "take_element"), ("?", "set_maybe"), ("v", "set_value")]:
        places = [(node, path, part) for node in nodes_with(tree, sign) for path, part in places_of(tree, node, table)]
        if name == "take_element":
            places = [place for place in places if place[2] != []]
        if places:
            node, path, _ = rng.choice(places)
            below = tree_at(tree, node)[1] if sign == "[" else tree_at(tree, node)
            part = ordered(below, random_document(rng, below))
            behind = {"put_element": [0, part], "take_element": [0]}.get(name, [part])
            found.append((name, [node, path] + behind))
    return found


def edit_calls(rng, tree, schema, table, rows):
    """Calls of the edits, and of the methods of a live table, with valid arguments."""
    found = []
    fitting_errors = ["InvalidColumns", "NotFitting"]
    held = live.LiveTable(schema)
    for index, document in enumerate(table):
        held.put_document(index, document)
    for name, arguments in arguments_of_edits(rng, tree, table):
        free = {1: ["InvalidPath"]}
        if name != "take_element":
            free[len(arguments) - 1] = ["InvalidPart"]
        found.append((getattr(held.twin(), name), arguments, free))
        free = {place + 2: names for place, names in free.items()}
        free[1] = fitting_errors + ["InvalidPath"]
        found.append((getattr(edits, name), [schema, rows] + arguments, free))
    document = ordered(tree, random_document(rng, tree))
    node = rng.choice(filter_nodes(tree))
    test, ask = random_test(rng, tree, node), random_ask(rng, tree)
    found.append((edits.put_document, [schema, rows, 0, document], {1: fitting_errors, 3: ["InvalidPart"]}))
    found.append((held.twin().put_document, [0, document], {1: ["InvalidPart"]}))
    found.append((held.twin().keep, [node, test], {1: ["InvalidTest"]}))
    found.append((held.twin().ask, [ask], {0: ["InvalidAsk"]}))
    if table:
        leaf = rng.randrange(len(rows))
        found.append((edits.take_document, [schema, rows, 0], {1: fitting_errors + ["InvalidPath"]}))
        found.append((edits.stretch, [schema, leaf, rows[leaf], -1, (0,)],
                      {2: ["InvalidColumns", "InvalidPath"], 4: ["InvalidPath"]}))
    return found


def later_calls(rng, tree, schema, table, rows):
    """Calls of evolve, machines, counts and pages with valid arguments."""
    fitting_errors = ["InvalidColumns", "NotFitting"]
    many = len(schema)
    leaf = rng.randrange(many)
    leaves = sorted(rng.sample(range(many), rng.randint(1, many)))
    lengths = [min(len(column), 24) for column in rows]
    test = (rng.choice(["some", "all"]), leaves_of(tree)[leaf], rng.choice("<=>"), rng.randint(-2, 8))
    found = [
        (evolve.cut_columns, [schema, rows, leaves], {1: fitting_errors, 2: ["InvalidLeaf"]}),
        (machines.next_leaf, [schema, leaves, leaves[0], 0], {1: ["InvalidLeaf"]}),
        (all_entries, [schema, leaves, rows], {1: ["InvalidLeaf"], 2: fitting_errors}),
        (counts.count_tables, [schema, len(table), lengths], {2: ["InvalidLengths", "TooLarge"]}),
        (pages.cut_pages, [schema, leaf, rows[leaf], 2], {2: ["InvalidColumns"]}),
        (pages.bits_by_pages, [schema, leaf, pages.cut_pages(schema, leaf, rows[leaf], 2), test],
         {2: ["InvalidPage"], 3: ["InvalidTest"]})]
    for node in range(len(nodes_of(tree))):
        for function in [evolve.into_maybe, evolve.into_list]:
            try:
                function(schema, rows, node)
            except errors.TooLarge:
                continue
            found.append((function, [schema, rows, node], {1: fitting_errors}))
    records = [node for node in nodes_with(tree, "{") if way_length(tree, node) < 7]
    if records and many < 12:
        node = rng.choice(records)
        found.append((evolve.with_field, [schema, rows, node, "new", "v"], {1: fitting_errors, 3: ["InvalidField"]}))
    if table:
        numbers = pages.page_numbers(schema, leaf, rows[leaf])
        thing = pages.parted_pages(schema, leaf, numbers, test)
        found += [
            (pages.page_numbers, [schema, leaf, rows[leaf]], {2: ["InvalidColumns", "InvalidPage"]}),
            (pages.page_state, [schema, leaf, numbers, test], {2: ["InvalidPage"], 3: ["InvalidTest"]}),
            (pages.parted_pages, [schema, leaf, numbers, test], {2: ["InvalidPage"], 3: ["InvalidTest"]}),
            (pages.shows_parted_pages, [schema, leaf, numbers, test, thing],
             {2: ["InvalidPage"], 3: ["InvalidTest"], 4: []})]
    return found


def way_length(tree, node):
    return len([above for above in nodes_of(tree)[node][1] if nodes_of(tree)[above][0] in "?["])


def calls(rng, tree, schema):
    """Calls with valid arguments: the function, the arguments, and for the free places their errors."""
    table = [ordered(tree, random_document(rng, tree)) for _ in range(rng.randint(0, 3))]
    rows, many = columns_in(tree, table), len(schema)
    leaf = rng.randrange(many)
    leaves = sorted(rng.sample(range(many), rng.randint(1, many)))
    node, ask = rng.choice(filter_nodes(tree)), random_ask(rng, tree)
    test = random_test(rng, tree, node)
    bits = [rng.random() < 0.5 for _ in pieces_at(tree, node, table)]
    needed = asks.needs_of(schema, ask)
    lengths = [len(column) for column in rows]
    fitting_errors = ["InvalidColumns", "NotFitting"]
    return edit_calls(rng, tree, schema, table, rows) + later_calls(rng, tree, schema, table, rows) + [
        (documents.table_fault, [schema, table], {1: []}),
        (documents.cut_table, [schema, table, leaves], {1: ["InvalidTable"], 2: ["InvalidLeaf"]}),
        (columns.column_of, [schema, leaf, table], {2: ["InvalidTable"]}),
        (columns.split, [schema, table], {1: ["InvalidTable"]}),
        (columns.column_fault, [schema, leaf, rows[leaf]], {2: []}),
        (columns.table_of, [schema, leaf, rows[leaf]], {2: ["InvalidColumns"]}),
        (fitting.prefix, [schema, leaf, rows[leaf], -1], {2: ["InvalidColumns"]}),
        (fitting.first_misfit, [schema, rows], {1: ["InvalidColumns"]}),
        (fitting.joined, [schema, rows], {1: fitting_errors}),
        (misfits.misfits, [schema, rows], {1: ["InvalidColumns"]}),
        (misfits.greatest_fit, [schema, rows], {1: ["InvalidColumns"]}),
        (misfits.count_greatest, [schema, rows], {1: ["InvalidColumns"]}),
        (misfits.suspects, [schema, rows], {1: ["InvalidColumns"]}),
        (misfits.misfit_groups, [schema, rows], {1: ["InvalidColumns"]}),
        (misfits.shows_groups, [schema, rows, [[one] for one in range(many)]], {1: ["InvalidColumns"], 2: []}),
        (questions.lowest, [schema, needed], {1: ["InvalidNeeded"]}),
        (questions.is_enough, [schema, needed, leaves], {1: ["InvalidNeeded"], 2: ["InvalidLeaf"]}),
        (questions.fewest_leaves, [schema, needed], {1: ["InvalidNeeded"]}),
        (questions.lightest_leaves, [schema, needed, lengths], {1: ["InvalidNeeded"], 2: ["InvalidLengths"]}),
        (questions.parted, [schema, needed, leaves], {1: ["InvalidNeeded"], 2: ["InvalidLeaf"]}),
        (questions.shows_parted, [schema, needed, leaves, (table, table)],
         {1: ["InvalidNeeded"], 2: ["InvalidLeaf"], 3: []}),
        (packing.packed, [schema, rows], {1: fitting_errors}),
        (packing.unpacked, [schema, packing.packed(schema, rows)], {1: ["InvalidColumns"]}),
        (masks.mask, [schema, rows, node, test], {1: fitting_errors, 3: ["InvalidTest"]}),
        (masks.filtered, [schema, rows, node, bits], {1: fitting_errors + ["InvalidMask"], 3: ["InvalidMask"]}),
        (asks.needs_of, [schema, ask], {1: ["InvalidAsk"]}),
        (asks.told_of, [schema, table, ask], {1: ["InvalidTable"], 2: ["InvalidAsk"]}),
        (asks.answered, [schema, list(range(many)), rows, ask],
         {1: ["InvalidLeaf", "NotEnough"], 2: fitting_errors, 3: ["InvalidAsk"]})]


class AnyObjects(unittest.TestCase):

    def test_changed_arguments(self):
        rng = random.Random(121)
        ended, met = {}, []
        for tree in random_trees(300, seed=122, most_leaves=6):
            schema = schemas.Schema(text_of(tree))
            for function, arguments, free in calls(rng, tree, schema):
                function(*arguments)
                for place, names in free.items():
                    met += [(function, place, names)] if names else []
                    for _ in range(6):
                        given = list(arguments)
                        given[place] = changed(rng, given[place])
                        try:
                            function(*given)
                            name = None
                        except errors.ColumnError as error:
                            name = type(error).__name__
                        self.assertIn(name, [None] + names, (function.__name__, repr(given)[:300]))
                        ended[(function.__name__, place, name)] = True
        for function, place, names in {(function.__name__, place, tuple(names)) for function, place, names in met}:
            self.assertIn((function, place, names[0]), ended)

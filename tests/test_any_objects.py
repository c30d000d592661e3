"""Point 2: any objects in the places that may have them end in a result or in a named error."""

import random
import unittest

from levelcolumns import asks, columns, documents, errors, fitting, masks, misfits, packing, questions, schemas
from tests.samples import (columns_in, filter_nodes, ordered, pieces_at, random_ask, random_document, random_test,
                           random_trees, text_of)

ATOMS = [0, 1, -1, 2, 3, 10 ** 59, True, False, None, "", "some", "all", "not", "both", "count", "where", "values",
         "<", "=", "a", (), [], {}, schemas.Schema("v"), errors.InvalidLeaf("0")]


def changed(rng, thing):
    """The object with one or some of its parts replaced, left out, doubled, or put into another kind."""
    if rng.random() < 0.15:
        return rng.choice(ATOMS + [[thing], (thing,), {"a": thing}, [thing, thing], (thing, thing)])
    if type(thing) in (list, tuple) and thing:
        parts = list(thing)
        at = rng.randrange(len(parts))
        draw = rng.random()
        if draw < 0.1:
            parts = parts[:at] + parts[at + 1:]
        elif draw < 0.2:
            parts = parts[:at] + [parts[at]] + parts[at:]
        elif draw < 0.3:
            parts = parts[::-1]
        else:
            parts[at] = changed(rng, parts[at])
        if rng.random() < 0.05:
            return tuple(parts) if type(thing) is list else parts
        return type(thing)(parts)
    if type(thing) is dict and thing:
        name = rng.choice(list(thing))
        return dict(thing, **{rng.choice([name, name, name, "zz"]): changed(rng, thing[name])})
    return rng.choice(ATOMS)


def calls(rng, tree, schema):
    """Calls with valid arguments: the function, the arguments, and for the free places their errors."""
    table = [ordered(tree, random_document(rng, tree)) for _ in range(rng.randint(0, 3))]
    rows, many = columns_in(tree, table), len(schema)
    leaf = rng.randrange(many)
    leaves = sorted(rng.sample(range(many), rng.randint(1, many)))
    node, ask = rng.choice(filter_nodes(tree)), random_ask(rng, tree)
    test = random_test(rng, tree, node)
    bits = [rng.random() < 0.5 for _ in pieces_at(tree, node, table)]
    needed = asks.needs_of(schema, ask)
    lengths = [len(column) for column in rows]
    fitting_errors = ["InvalidColumns", "NotFitting"]
    return [
        (documents.table_fault, [schema, table], {1: []}),
        (documents.cut_table, [schema, table, leaves], {1: ["InvalidTable"], 2: ["InvalidLeaf"]}),
        (columns.column_of, [schema, leaf, table], {2: ["InvalidTable"]}),
        (columns.split, [schema, table], {1: ["InvalidTable"]}),
        (columns.column_fault, [schema, leaf, rows[leaf]], {2: []}),
        (columns.table_of, [schema, leaf, rows[leaf]], {2: ["InvalidColumns"]}),
        (fitting.prefix, [schema, leaf, rows[leaf], -1], {2: ["InvalidColumns"]}),
        (fitting.first_misfit, [schema, rows], {1: ["InvalidColumns"]}),
        (fitting.joined, [schema, rows], {1: fitting_errors}),
        (misfits.misfits, [schema, rows], {1: ["InvalidColumns"]}),
        (misfits.greatest_fit, [schema, rows], {1: ["InvalidColumns"]}),
        (misfits.count_greatest, [schema, rows], {1: ["InvalidColumns"]}),
        (misfits.suspects, [schema, rows], {1: ["InvalidColumns"]}),
        (misfits.misfit_groups, [schema, rows], {1: ["InvalidColumns"]}),
        (misfits.shows_groups, [schema, rows, [[one] for one in range(many)]], {1: ["InvalidColumns"], 2: []}),
        (questions.lowest, [schema, needed], {1: ["InvalidNeeded"]}),
        (questions.is_enough, [schema, needed, leaves], {1: ["InvalidNeeded"], 2: ["InvalidLeaf"]}),
        (questions.fewest_leaves, [schema, needed], {1: ["InvalidNeeded"]}),
        (questions.lightest_leaves, [schema, needed, lengths], {1: ["InvalidNeeded"], 2: ["InvalidLengths"]}),
        (questions.parted, [schema, needed, leaves], {1: ["InvalidNeeded"], 2: ["InvalidLeaf"]}),
        (questions.shows_parted, [schema, needed, leaves, (table, table)],
         {1: ["InvalidNeeded"], 2: ["InvalidLeaf"], 3: []}),
        (packing.packed, [schema, rows], {1: fitting_errors}),
        (packing.unpacked, [schema, packing.packed(schema, rows)], {1: ["InvalidColumns"]}),
        (masks.mask, [schema, rows, node, test], {1: fitting_errors, 3: ["InvalidTest"]}),
        (masks.filtered, [schema, rows, node, bits], {1: fitting_errors + ["InvalidMask"], 3: ["InvalidMask"]}),
        (asks.needs_of, [schema, ask], {1: ["InvalidAsk"]}),
        (asks.told_of, [schema, table, ask], {1: ["InvalidTable"], 2: ["InvalidAsk"]}),
        (asks.answered, [schema, list(range(many)), rows, ask],
         {1: ["InvalidLeaf", "NotEnough"], 2: fitting_errors, 3: ["InvalidAsk"]})]


class AnyObjects(unittest.TestCase):

    def test_changed_arguments(self):
        rng = random.Random(121)
        ended = {}
        for tree in random_trees(300, seed=122, most_leaves=6):
            schema = schemas.Schema(text_of(tree))
            for function, arguments, free in calls(rng, tree, schema):
                function(*arguments)
                for place, names in free.items():
                    for _ in range(6):
                        given = list(arguments)
                        given[place] = changed(rng, given[place])
                        try:
                            function(*given)
                            name = None
                        except errors.ColumnError as error:
                            name = type(error).__name__
                        self.assertIn(name, [None] + names, (function.__name__, repr(given)[:300]))
                        ended[(function.__name__, place, name)] = True
        for function, arguments, free in calls(rng, tree, schema):
            for place, names in free.items():
                for name in names[:1]:
                    self.assertIn((function.__name__, place, name), ended)

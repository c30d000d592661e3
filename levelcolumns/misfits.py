"""Which columns misfit, which fit together, and which may be spoilt."""

from levelcolumns.columns import check_columns
from levelcolumns.fitting import prefix_at
from levelcolumns.schemas import meeting


def misfits(schema, columns):
    """The pairs (leaf, second) of leaves that misfit, in order."""
    check_columns(schema, columns)
    pairs = []
    for second in range(len(schema)):
        pairs.extend([(leaf, second) for leaf in range(second) if _do_misfit(schema, columns, leaf, second)])
    return sorted(pairs)


def greatest_fit(schema, columns):
    """The longest list of leaves that fit together; of several the least."""
    return min(_longest_fits(schema, columns))


def count_greatest(schema, columns):
    """How many lists of leaves that fit together are as long as the longest."""
    return len(_longest_fits(schema, columns))


def suspects(schema, columns):
    """The leaves without which all others fit; none if all leaves fit."""
    pairs = misfits(schema, columns)
    if pairs == []:
        return []
    return [leaf for leaf in range(len(schema)) if all([leaf in pair for pair in pairs])]


def misfit_groups(schema, columns):
    """The leaves in as few groups as possible, every two leaves of one group misfit."""
    pairs = misfits(schema, columns)
    groups = []
    # The first group that a leaf can join will do. Two leaves that meet at a record fit
    # just if their prefixes there are equal, so no four leaves fit in a row alone (a with
    # b, b with c, c with d), and without such rows no sequence needs more groups than
    # the least number.
    for leaf in range(len(schema)):
        able = [group for group in groups if _all_misfit(pairs, group, leaf)]
        if able == []:
            groups.append([leaf])
        else:
            able[0].append(leaf)
    return groups


def shows_groups(schema, columns, thing):
    """Whether any object parts all leaves into groups in which every two leaves misfit."""
    pairs = misfits(schema, columns)
    if type(thing) != list or not all([_is_group(schema, pairs, group) for group in thing]):
        return False
    leaves = [leaf for group in thing for leaf in group]
    return sorted(leaves) == list(range(len(schema)))


def _do_misfit(schema, columns, leaf, second):
    node = meeting(schema, leaf, second)
    return prefix_at(schema, columns[leaf], node) != prefix_at(schema, columns[second], node)


def _longest_fits(schema, columns):
    """All lists of leaves that fit together with the greatest length."""
    pairs = misfits(schema, columns)
    lists = [[]]
    for leaf in range(len(schema)):
        lists = lists + [fit + [leaf] for fit in lists if not _meets_misfit(pairs, fit, leaf)]
    most = max([len(fit) for fit in lists])
    return [fit for fit in lists if len(fit) == most]


def _meets_misfit(pairs, fit, leaf):
    """Whether a leaf, greater than those of a list, misfits with one of them."""
    return any([(other, leaf) in pairs for other in fit])


def _all_misfit(pairs, group, leaf):
    """Whether a leaf, greater than those of a group, misfits with each of them."""
    return all([(other, leaf) in pairs for other in group])


def _is_group(schema, pairs, thing):
    """Whether any object is a list of one or more leaves, every two of which misfit."""
    if type(thing) != list or thing == []:
        return False
    for leaf in thing:
        if type(leaf) != int or not 0 <= leaf < len(schema):
            return False
    ordered = sorted(thing)
    return all([_all_misfit(pairs, ordered[:at], leaf) for at, leaf in enumerate(ordered)])

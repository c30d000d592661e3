"""Calls of the package's functions, and what each of them keeps to."""

import copy
import unittest

from levelcolumns.errors import ColumnError


def lists_and_dicts(thing):
    """All lists and dicts within an object, itself included."""
    found = [thing] if isinstance(thing, (list, dict)) else []
    if isinstance(thing, dict):
        thing = list(thing.values())
    if isinstance(thing, (list, tuple)):
        for inner in thing:
            found.extend(lists_and_dicts(inner))
    return found


def key_orders(thing):
    """The same object as lists, to tell the sequence of the names in dicts, and booleans from integers."""
    if isinstance(thing, dict):
        return ["dict"] + [(name, key_orders(part)) for name, part in thing.items()]
    if isinstance(thing, (list, tuple)):
        return [type(thing).__name__] + [key_orders(part) for part in thing]
    return [type(thing).__name__, thing]


def fault_of(function, *arguments, **named):
    """The name of the error's class and the values of its fields; None if there is no error."""
    try:
        function(*arguments, **named)
    except ColumnError as error:
        return (type(error).__name__,) + tuple(vars(error).values())
    return None


class Calls(unittest.TestCase):
    """A base of the tests that call functions by position and by name."""

    def result_of(self, function, **named):
        """The result, after looking that calls agree and that arguments and results keep apart."""
        before = copy.deepcopy(named)
        orders = key_orders(named)
        result = function(*named.values())
        again = function(**dict(reversed(list(named.items()))))
        wanted = copy.deepcopy(result)
        self.assertEqual(key_orders(again), key_orders(wanted))
        self.assertEqual(key_orders(named), orders)
        self.assertEqual(named, before)
        own = [id(thing) for thing in lists_and_dicts(result) + lists_and_dicts(again)]
        self.assertEqual(len(own), len(set(own)), "one object twice")
        self.assertFalse(set(own) & {id(thing) for thing in lists_and_dicts(named)}, "an argument's object")
        for thing in lists_and_dicts(result):
            thing.clear()
        self.assertEqual(named, before)
        self.assertEqual(key_orders(function(*named.values())), key_orders(wanted))
        return wanted

    def assert_fault(self, wanted, function, *arguments):
        self.assertEqual(fault_of(function, *arguments), wanted, repr(arguments)[:300])

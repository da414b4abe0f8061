"""What several tests use: a check of errors, and values of every kind."""

import sys
import unittest

# None of these is an integer, a name, an account, a cause, an order, or another value of the package.
ODD = [None, True, False, 1.5, b"ann", "", "Ann", "ann ", "ann\n", "a1", "\u00e4nn", [], (), {}, [1], (1,), {"ann": 1},
       ["ann"], ("ann", True), {(): []}, [[]], object()]

WRONG_DAYS = [-1, True, False, None, "1", (), [], {}, (1,), [1], {1: 1}, 1.0]
WRONG_NAMES = ["", "abcdefghi", "Ann", "an n", "a1", "a_b", "\u00e4nn", "ann\n", " ann", 1, None, True, ("ann",), ["ann"],
               {"ann": 1}, b"ann"]
RESERVED = ["house", "outside", "money"]


def steps(call, *args):
    """How often functions, builtins with them, are called and left by a call: a measure of its work without a clock."""
    events = []
    before = sys.getprofile()
    sys.setprofile(lambda frame, event, told: events.append(event))
    try:
        call(*args)
    finally:
        sys.setprofile(before)
    return len(events)


class Case(unittest.TestCase):
    """A test that can look at the attributes of an error."""

    def raises(self, error, told, call, *args, **named):
        """The call raises just this error with just these attributes, of the same kinds."""
        with self.assertRaises(error) as caught:
            call(*args, **named)
        self.assertIs(type(caught.exception), error)
        self.assertEqual(vars(caught.exception), told)
        self.assertEqual(repr(vars(caught.exception)), repr(told))

    def raises_given(self, error, given, call, *args, **named):
        """The call raises this error, whose attribute `given` is the very value."""
        with self.assertRaises(error) as caught:
            call(*args, **named)
        self.assertIs(type(caught.exception), error)
        self.assertIs(caught.exception.given, given)

    def same(self, value, other):
        """Both are equal and made of the same kinds, dicts in the same order."""
        self.assertEqual(value, other)
        self.assertEqual(repr(value), repr(other))

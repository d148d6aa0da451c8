"""What the tests of all modules share."""

import copy
import unittest

# One value of each kind that is no integer, and no text that a reader accepts.
OTHER_KINDS = (True, False, None, "1", "", 1.0, b"1", [1], (1,))
NO_TEXTS = (None, True, 5, 1.5, b"1", ["1"], ("1",))


def kinds_of(value):
    """The kind of a value, and those of its items at every level."""
    if isinstance(value, (list, tuple)):
        return (type(value), [kinds_of(item) for item in value])
    return type(value)


def as_lists(value):
    """The value with every tuple in it made a list."""
    if isinstance(value, (list, tuple)):
        return [as_lists(item) for item in value]
    return value


def as_tuples(value):
    """The value with every list in it made a tuple."""
    if isinstance(value, (list, tuple)):
        return tuple(as_tuples(item) for item in value)
    return value


class Case(unittest.TestCase):
    """A test case that also looks at kinds and at the very class of an error."""

    def same(self, actual, expected):
        """Equal, and of the same kinds at every level, so that True is not 1."""
        self.assertEqual(actual, expected)
        self.assertEqual(kinds_of(actual), kinds_of(expected))

    def error(self, expected, call, *arguments, **named):
        """The error that a call raises, which is of exactly the class expected."""
        try:
            answer = call(*arguments, **named)
        except Exception as error:
            self.assertIs(type(error), expected)
            return error
        self.fail(f"{answer!r} instead of {expected.__name__}")

    def keeps(self, call, *arguments):
        """Rows as lists and as tuples are answered alike, and stay as they were."""
        lists = as_lists(arguments)
        ahead = copy.deepcopy(lists)
        answer = call(*lists)
        self.same(lists, ahead)
        self.assertEqual(call(*as_tuples(arguments)), answer)
        return answer

    def new_list(self, call, *arguments):
        """Every call returns a list of its own."""
        first = call(*arguments)
        self.assertIs(type(first), list)
        ahead = list(first)
        first.append("changed")
        first[0] = "changed"
        self.same(call(*arguments), ahead)

"""Helpers of the tests: exact comparison of values, errors, wrong values, and plain reference answers."""

import itertools
import random
import unittest

HUGE = 10 ** 60 - 1

# Plain values of every kind that are no integer at all.
NO_INTEGERS = (True, False, None, "", "0", "1", "a", [], [1], (), (1,), [[1]], ((0, [None]),), "a\nb")

# Plain values of every kind that are no text at all.
NO_TEXTS = (True, False, None, 0, 1, -1, HUGE, -HUGE, [], ["a"], (), ("a",), [["a"]], (("a", [None]),), [[[[[["a"]]]]]])

NO_ALPHABETS = NO_TEXTS + ("", "ba", "aa", "abcde", "A", "aB", "a b", "-", "1", "a1", "a\n", "~", "abca", "z" * 5000)

NO_NUMBERS = NO_INTEGERS + (-1, -HUGE, HUGE)


def words_up_to(letters, most):
    """All words of at most `most` letters, straight from the definition of the word order."""
    return ["".join(row) for size in range(most + 1) for row in itertools.product(letters, repeat=size)]


def same(first, second):
    """Equality that tells flags from integers and lists from tuples."""
    if type(first) is not type(second):
        return False
    if isinstance(first, (list, tuple)):
        return len(first) == len(second) and all(map(same, first, second))
    return first == second


def lists_in(value):
    """All lists in a value, at any depth."""
    found = [value] if isinstance(value, list) else []
    if isinstance(value, (list, tuple)):
        for item in value:
            found.extend(lists_in(item))
    return found


def copied(value):
    """The value with new lists and the same objects."""
    return type(value)(map(copied, value)) if isinstance(value, (list, tuple)) else value


def spoil(value):
    """Change every list in a value beyond recognition."""
    for row in lists_in(value):
        row.append("spoilt")
        row.reverse()


def seeded(number):
    return random.Random(number)


class Case(unittest.TestCase):
    """A test case that compares exactly."""

    def same(self, first, second, msg=None):
        self.assertTrue(same(first, second), msg or f"{first!r:.300} is not exactly {second!r:.300}")

    def fails(self, error, told, function, *args, **named):
        """The call raises exactly this class of error with these attributes, and changes no argument."""
        plain = [value for value in args if isinstance(value, (list, tuple))]
        before = copied(plain)
        with self.assertRaises(Exception) as caught:
            function(*args, **named)
        self.assertIs(type(caught.exception), error)
        for name, value in told.items():
            self.assertTrue(same(getattr(caught.exception, name), value), name)
        self.same(plain, before)
        return caught.exception

    def fails_with(self, error, value, function, *args, **named):
        """The call raises this error, and its value is the very value."""
        self.assertIs(self.fails(error, {}, function, *args, **named).value, value)

    def fresh(self, ask):
        """The same call answers the same after its answer was changed, and no list occurs twice in it."""
        first = ask()
        kept = copied(first)
        rows = lists_in(first)
        self.assertEqual(len(rows), len({id(row) for row in rows}), "a list occurs twice")
        spoil(first)
        self.same(ask(), kept)

"""What the tests have in common."""

import unittest

from unseenslopes import errors

ANY_VALUES = [None, True, False, 0, 1, -7, 10 ** 40, "", "x", "Name", "a b\n", [], [1, "x"], (), (None, [2])]


class Case(unittest.TestCase):
    """A test case that asks for an error by its class and its attributes."""

    def assert_fails(self, expected, call, *given, **more):
        """Asks that a call raises an error like the expected one."""
        try:
            answer = call(*given, **more)
        except (errors.SlopeError, errors.Missing) as error:
            self.assertIs(type(error), type(expected), f"{str(given)[:200]} {error}" if small(given) else "")
            self.assertEqual(vars(error), vars(expected), str(given)[:200] if small(given) else "")
            for name, worth in vars(expected).items():
                self.assertIs(type(vars(error)[name]), type(worth))
        else:
            self.fail(f"{given} {more}: {answer!r} instead of {type(expected).__name__} {vars(expected)}")


def small(values):
    """Whether Python can write the values."""
    return not any(isinstance(value, int) and value.bit_length() > 10000 for value in values)

"""A test case that tells 1 from True, and whose error checks look at the fields."""

import unittest

from cointakes.errors import CoinError


class ExactCase(unittest.TestCase):
    def same(self, found, wanted, message=None):
        """Equal and of the same kinds throughout: repr tells True from 1 and a list from a tuple."""
        self.assertEqual(found, wanted, message)
        self.assertEqual(repr(found), repr(wanted), message)

    def fails(self, error, fields, function, *arguments):
        """The call raises just this class with just these fields, and changes no argument."""
        before = repr(arguments)
        told = f"{function.__name__}{before}"
        with self.assertRaises(CoinError, msg=told) as caught:
            function(*arguments)
        self.assertIs(caught.exception.__class__, error, told)
        self.same(vars(caught.exception), fields, told)
        self.assertEqual(repr(arguments), before)

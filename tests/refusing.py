"""What all tests of refusals need."""

import unittest

from knotweb.errors import NoSuch


class Refusing(unittest.TestCase):
    def refused(self, kind, call, *handed, **named):
        """The refusal by which a call is refused, of just this kind."""
        with self.assertRaises(kind) as caught:
            call(*handed, **named)
        self.assertIs(type(caught.exception), kind)
        return caught.exception

    def assert_place(self, kind, place, call, *handed):
        """A call is refused by just this place."""
        told = self.refused(kind, call, *handed).place
        self.assertEqual(repr(told), repr(place))

    def assert_no_such(self, thing, call, *handed, **named):
        """A call is refused with NoSuch of the very thing."""
        self.assertIs(self.refused(NoSuch, call, *handed, **named).name, thing)

    def assert_lacks(self, which, call, *handed, **named):
        """A call is refused with NoSuch of a like name."""
        self.assertEqual(repr(self.refused(NoSuch, call, *handed, **named).name), repr(which))

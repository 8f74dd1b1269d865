"""What several tests need to check errors."""

import unittest


class Checks(unittest.TestCase):

    def fails(self, error, call, **told):
        """The call raises just this error, with these attributes and no others."""
        with self.assertRaises(error) as caught:
            call()
        self.assertIs(type(caught.exception), error)
        found = vars(caught.exception)
        self.assertEqual(sorted(found), sorted(told))
        for name, thing in told.items():
            if found[name] is not thing:
                self.assertEqual((type(found[name]), found[name]), (type(thing), thing))

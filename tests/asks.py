"""What tests of several modules ask."""

import copy
import unittest


class Unchanged(unittest.TestCase):
    def assert_unchanged(self, asks, kinds):
        """Nothing that is handed in is changed, and the same arguments give the same answers, of these kinds."""
        for ask, arguments in asks:
            with self.subTest(ask.__name__):
                ahead = copy.deepcopy(arguments)
                first = ask(*arguments)
                self.assertEqual(ask(*arguments), first)
                self.assertEqual(arguments, ahead)
                self.assertIn(type(first), kinds)

"""Point [7] and the interface of moatways/errors.py."""

import unittest

from moatways.errors import Apart, BadText, MoatError, Refused


class Errors(unittest.TestCase):
    def test_the_base_class(self):
        self.assertTrue(issubclass(MoatError, ValueError))
        for kind in (Apart, BadText, Refused):
            self.assertTrue(issubclass(kind, MoatError))

    def test_none_is_a_base_class_of_another_one(self):
        kinds = (Apart, BadText, Refused)
        for kind in kinds:
            for other in kinds:
                self.assertEqual(issubclass(kind, other), kind is other)

    def test_the_attributes(self):
        self.assertEqual(Apart(3).index, 3)
        self.assertEqual(BadText(7).line, 7)
        self.assertEqual(Refused("full").reason, "full")

    def test_each_object_has_its_own_attribute(self):
        first, second = Apart(0), Apart(5)
        self.assertEqual((first.index, second.index), (0, 5))

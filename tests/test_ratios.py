"""Point [3]: ratios in lowest terms, the bottom at least 1."""

import unittest
from fractions import Fraction
from math import gcd

from moatways.fines import fine_moats
from moatways.growths import growth, moats, moments
from moatways.papers import worth
from moatways.ratios import ZERO, less, minus, plus, ratio
from tests.helper import as_fraction, as_ratio, fine_tasks, small_tasks


class Ratios(unittest.TestCase):
    def test_lowest_terms(self):
        self.assertEqual(ratio(6, 4), (3, 2))
        self.assertEqual(ratio(-6, 4), (-3, 2))
        self.assertEqual(ratio(5, 1), (5, 1))
        self.assertEqual(ratio(0, 7), (0, 1))
        self.assertEqual(ZERO, (0, 1))

    def test_the_signs(self):
        values = [Fraction(top, bottom) for top in range(-5, 6) for bottom in range(1, 5)]
        for first in values:
            for second in values:
                one, two = as_ratio(first), as_ratio(second)
                self.assertEqual(plus(one, two), as_ratio(first + second))
                self.assertEqual(minus(one, two), as_ratio(first - second))
                self.assertEqual(less(one, two), first < second)


class RatiosOfAnswers(unittest.TestCase):
    def check(self, value):
        self.assertIsInstance(value, tuple)
        top, bottom = value
        self.assertIs(type(top), int)
        self.assertIs(type(bottom), int)
        self.assertGreaterEqual(bottom, 1)
        self.assertEqual(gcd(top, bottom), 1)

    def test_times_widths_and_worths(self):
        for net, pairs in small_tasks(150, 3):
            for time, _ in growth(net, pairs):
                self.check(time)
            for time, _, _ in moments(net, pairs):
                self.check(time)
            paper = moats(net, pairs)
            for _, width in paper:
                self.check(width)
            self.check(worth(paper))

    def test_widths_and_worths_with_fines(self):
        for net, root, fines in fine_tasks(150, 21):
            paper = fine_moats(net, root, fines)
            for _, width in paper:
                self.check(width)
                self.assertGreater(width[0], 0)
            self.check(worth(paper))

    def test_a_worth_that_cancels(self):
        self.assertEqual(worth((((0,), (1, 6)), ((1,), (1, 3)))), (1, 2))
        self.assertEqual(worth((((0,), (1, 2)), ((1,), (1, 2)))), (1, 1))
        self.assertEqual(worth((((0,), (1, 2)), ((1,), (-1, 2)))), (0, 1))

    def test_the_worth_is_the_sum(self):
        for net, pairs in small_tasks(50, 4):
            paper = moats(net, pairs)
            total = sum((as_fraction(width) for _, width in paper), Fraction(0))
            self.assertEqual(worth(paper), as_ratio(total))

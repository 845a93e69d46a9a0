"""Points [21] and [22]: yards."""

import unittest
from itertools import combinations
from random import Random

from moatways.errors import Apart, Refused
from moatways.growths import told
from moatways.nets import groups
from moatways.yard import Yard
from tests.helper import EXAMPLE, EXAMPLE_PAIRS


def yard_of(net, pairs):
    yard = Yard(net[0])
    for a, b, cost in net[1]:
        yard.build(a, b, cost)
    for a, b in pairs:
        yard.want(a, b)
    return yard


class Edits(unittest.TestCase):
    def refused(self, yard, reason, edit, *arguments):
        before = (yard.task(), yard.worked())
        with self.assertRaises(Refused) as caught:
            edit(*arguments)
        self.assertEqual(caught.exception.reason, reason)
        self.assertEqual((yard.task(), yard.worked()), before)

    def test_a_new_yard(self):
        yard = Yard(7)
        self.assertEqual(yard.task(), ((7, ()), ()))
        self.assertEqual(yard.worked(), 0)
        self.assertEqual(Yard(1).told(), ())

    def test_edits_return_nothing(self):
        yard = Yard(3)
        self.assertIsNone(yard.build(0, 1, 5))
        self.assertIsNone(yard.change(0, 6))
        self.assertIsNone(yard.want(0, 1))
        self.assertIsNone(yard.drop(0, 1))
        self.assertIsNone(yard.cut(0))

    def test_build(self):
        yard = Yard(3)
        yard.build(1, 2, 5)
        yard.build(0, 1, 6)
        yard.build(1, 2, 5)
        self.assertEqual(yard.task(), ((3, ((1, 2, 5), (0, 1, 6), (1, 2, 5))), ()))

    def test_build_a_25th_way(self):
        yard = Yard(2)
        for cost in range(1, 25):
            yard.build(0, 1, cost)
        self.assertEqual(len(yard.task()[0][1]), 24)
        self.refused(yard, "full", yard.build, 0, 1, 25)
        yard.cut(3)
        yard.build(0, 1, 99)
        self.assertEqual(yard.task()[0][1][-2:], ((0, 1, 24), (0, 1, 99)))
        self.refused(yard, "full", yard.build, 0, 1, 25)

    def test_change(self):
        yard = yard_of(EXAMPLE, EXAMPLE_PAIRS)
        yard.change(1, 7)
        yard.change(3, 1)
        ways = ((0, 1, 4), (1, 2, 7), (2, 3, 4), (0, 3, 1))
        self.assertEqual(yard.task(), ((4, ways), EXAMPLE_PAIRS))

    def test_change_a_way_that_is_not_there(self):
        yard = Yard(4)
        self.refused(yard, "way", yard.change, 0, 3)
        yard = yard_of(EXAMPLE, EXAMPLE_PAIRS)
        self.refused(yard, "way", yard.change, 4, 3)
        self.refused(yard, "way", yard.change, 24, 3)
        yard.change(3, 3)

    def test_cut(self):
        yard = yard_of(EXAMPLE, EXAMPLE_PAIRS)
        yard.cut(1)
        self.assertEqual(yard.task(), ((4, ((0, 1, 4), (2, 3, 4), (0, 3, 20))), EXAMPLE_PAIRS))
        yard.cut(1)
        self.assertEqual(yard.task(), ((4, ((0, 1, 4), (0, 3, 20))), EXAMPLE_PAIRS))
        yard.cut(1)
        yard.cut(0)
        self.assertEqual(yard.task(), ((4, ()), EXAMPLE_PAIRS))

    def test_cut_a_way_that_is_not_there(self):
        yard = yard_of(EXAMPLE, EXAMPLE_PAIRS)
        self.refused(yard, "way", yard.cut, 4)
        self.refused(yard, "way", yard.cut, 30)
        yard.cut(3)
        self.refused(yard, "way", yard.cut, 3)
        yard = Yard(1)
        self.refused(yard, "way", yard.cut, 0)

    def test_want_and_drop(self):
        yard = Yard(4)
        yard.want(1, 3)
        yard.want(0, 2)
        yard.want(0, 1)
        self.assertEqual(yard.task(), ((4, ()), ((1, 3), (0, 2), (0, 1))))
        yard.drop(0, 2)
        self.assertEqual(yard.task(), ((4, ()), ((1, 3), (0, 1))))
        yard.want(0, 2)
        self.assertEqual(yard.task(), ((4, ()), ((1, 3), (0, 1), (0, 2))))

    def test_want_a_pair_that_is_there(self):
        yard = yard_of(EXAMPLE, EXAMPLE_PAIRS)
        self.refused(yard, "known", yard.want, 0, 2)
        self.refused(yard, "known", yard.want, 1, 3)
        yard.drop(0, 2)
        yard.want(0, 2)

    def test_want_a_7th_pair(self):
        yard = Yard(9)
        for b in range(1, 7):
            yard.want(0, b)
        self.refused(yard, "full", yard.want, 0, 7)
        yard.drop(0, 3)
        yard.want(0, 7)
        self.refused(yard, "full", yard.want, 0, 3)

    def test_known_comes_before_full(self):
        yard = Yard(9)
        for b in range(1, 7):
            yard.want(0, b)
        for b in range(1, 7):
            self.refused(yard, "known", yard.want, 0, b)
        self.refused(yard, "full", yard.want, 1, 2)

    def test_drop_a_pair_that_is_not_there(self):
        yard = Yard(2)
        self.refused(yard, "unknown", yard.drop, 0, 1)
        yard = yard_of(EXAMPLE, EXAMPLE_PAIRS)
        self.refused(yard, "unknown", yard.drop, 0, 1)
        yard.drop(0, 2)
        self.refused(yard, "unknown", yard.drop, 0, 2)

    def test_a_task_stays_as_it_was(self):
        yard = yard_of(EXAMPLE, EXAMPLE_PAIRS)
        task = yard.task()
        yard.cut(0)
        yard.change(0, 9)
        yard.drop(0, 2)
        self.assertEqual(task, (EXAMPLE, EXAMPLE_PAIRS))

    def test_yards_do_not_share_anything(self):
        first, second = Yard(4), Yard(4)
        first.build(0, 1, 3)
        first.want(0, 1)
        first.told()
        self.assertEqual((second.task(), second.worked()), (((4, ()), ()), 0))
        self.assertEqual(second.told(), ())

    def test_beyond_the_limits_nothing_is_raised(self):
        yard = Yard(14)
        yard.build(0, 13, 10001)
        yard.want(0, 13)
        self.assertEqual(yard.told(), (0,))


class Told(unittest.TestCase):
    def setUp(self):
        # Two parts with pairs, (0, 1, 2) and (3, 4, 5), and the place 6 alone.
        ways = ((0, 1, 4), (3, 4, 4), (1, 2, 4), (4, 5, 4), (0, 2, 9))
        self.yard = yard_of((7, ways), ((0, 2), (3, 5)))

    def check(self, choice, worked):
        self.assertEqual(self.yard.told(), choice)
        self.assertEqual(self.yard.told(), told(*self.yard.task()))
        self.assertEqual(self.yard.worked(), worked)

    def apart(self, index, worked):
        for _ in range(2):
            with self.assertRaises(Apart) as caught:
                self.yard.told()
            self.assertEqual(caught.exception.index, index)
        self.assertEqual(self.yard.worked(), worked)

    def test_each_part_is_worked_out_once(self):
        self.assertEqual(self.yard.worked(), 0)
        self.check((0, 1, 2, 3), 2)
        self.check((0, 1, 2, 3), 2)

    def test_edits_and_questions_work_nothing_out(self):
        self.yard.change(0, 5)
        self.yard.task()
        self.assertEqual(self.yard.worked(), 0)
        self.yard.told()
        self.yard.change(0, 7)
        self.assertEqual(self.yard.worked(), 2)

    def test_a_change_in_one_part(self):
        self.check((0, 1, 2, 3), 2)
        self.yard.change(2, 8)
        self.check((1, 3, 4), 3)
        self.yard.change(1, 5)
        self.check((1, 3, 4), 4)

    def test_an_edit_that_is_undone_before_the_next_answer(self):
        self.check((0, 1, 2, 3), 2)
        self.yard.change(0, 9)
        self.yard.change(0, 4)
        self.yard.want(0, 1)
        self.yard.drop(0, 1)
        self.yard.build(5, 6, 3)
        self.yard.cut(5)
        self.check((0, 1, 2, 3), 2)

    def test_a_part_that_comes_back_after_an_answer_without_it(self):
        self.check((0, 1, 2, 3), 2)
        self.yard.change(0, 9)
        self.check((1, 3, 4), 3)
        self.yard.change(0, 4)
        self.check((0, 1, 2, 3), 4)

    def test_a_part_without_a_pair_is_not_worked_out_and_not_kept(self):
        self.check((0, 1, 2, 3), 2)
        self.yard.drop(0, 2)
        self.check((1, 3), 2)
        self.yard.change(0, 9)
        self.check((1, 3), 2)
        self.yard.change(0, 4)
        self.yard.want(0, 2)
        # The pairs stand in another order, but not those of one part.
        self.assertEqual(self.yard.task()[1], ((3, 5), (0, 2)))
        self.check((0, 1, 2, 3), 3)

    def test_an_answer_without_any_pair_keeps_no_part(self):
        self.check((0, 1, 2, 3), 2)
        self.yard.drop(0, 2)
        self.yard.drop(3, 5)
        self.check((), 2)
        self.yard.want(3, 5)
        self.yard.want(0, 2)
        self.check((0, 1, 2, 3), 4)

    def test_pairs_that_are_dropped_and_wanted_again_between_two_answers(self):
        self.check((0, 1, 2, 3), 2)
        self.yard.drop(0, 2)
        self.yard.want(0, 2)
        self.check((0, 1, 2, 3), 2)

    def test_a_pair_more_in_a_part(self):
        self.check((0, 1, 2, 3), 2)
        self.yard.want(0, 1)
        self.check((0, 1, 2, 3), 3)
        # The same pairs of the part in another order.
        self.yard.drop(0, 2)
        self.yard.want(0, 2)
        self.check((0, 1, 2, 3), 4)
        self.yard.drop(0, 1)
        self.check((0, 1, 2, 3), 5)

    def test_the_indexes_of_the_ways_do_not_matter(self):
        self.check((0, 1, 2, 3), 2)
        self.yard.cut(4)
        self.check((0, 1, 2, 3), 3)
        self.yard.cut(0)
        self.yard.build(0, 1, 4)
        # The ways of (0, 1, 2) are (1, 2) and (0, 1) now; those of (3, 4, 5) moved up.
        self.assertEqual(
            self.yard.task()[0][1], ((3, 4, 4), (1, 2, 4), (4, 5, 4), (0, 1, 4))
        )
        self.check((0, 1, 2, 3), 4)
        self.yard.cut(1)
        self.yard.build(1, 2, 4)
        self.assertEqual(
            self.yard.task()[0][1], ((3, 4, 4), (4, 5, 4), (0, 1, 4), (1, 2, 4))
        )
        self.check((0, 1, 2, 3), 5)

    def test_ways_of_other_parts_are_cut_before_a_part(self):
        self.check((0, 1, 2, 3), 2)
        self.yard.drop(0, 2)
        self.yard.cut(0)
        self.yard.cut(1)
        self.assertEqual(self.yard.task()[0][1], ((3, 4, 4), (4, 5, 4), (0, 2, 9)))
        self.check((0, 1), 2)

    def test_a_place_more_in_a_part(self):
        self.check((0, 1, 2, 3), 2)
        self.yard.build(5, 6, 3)
        self.check((0, 1, 2, 3), 3)
        self.yard.cut(5)
        self.check((0, 1, 2, 3), 4)

    def test_a_way_twice_in_a_part(self):
        self.check((0, 1, 2, 3), 2)
        self.yard.build(3, 4, 4)
        self.check((0, 1, 2, 3), 3)

    def test_two_parts_are_joined_and_parted(self):
        self.check((0, 1, 2, 3), 2)
        self.yard.build(2, 3, 1)
        self.check((0, 1, 2, 3), 3)
        self.yard.cut(5)
        self.check((0, 1, 2, 3), 5)

    def test_two_parts_are_joined_and_parted_between_two_answers(self):
        self.check((0, 1, 2, 3), 2)
        self.yard.build(2, 3, 1)
        self.yard.cut(5)
        self.check((0, 1, 2, 3), 2)

    def test_a_part_that_loses_a_place(self):
        self.check((0, 1, 2, 3), 2)
        self.yard.cut(0)
        self.assertEqual(self.yard.task()[0][1][3], (0, 2, 9))
        self.check((0, 2, 3), 3)
        self.yard.cut(1)
        self.check((0, 1, 2), 4)

    def test_a_call_that_raises_apart_works_nothing_out(self):
        self.yard.want(2, 6)
        self.apart(2, 0)
        self.yard.drop(2, 6)
        self.check((0, 1, 2, 3), 2)

    def test_a_call_that_raises_apart_is_no_answer(self):
        self.check((0, 1, 2, 3), 2)
        self.yard.want(2, 6)
        self.yard.change(1, 5)
        self.apart(2, 2)
        # The part (3, 4, 5) is as it was in the last answer again.
        self.yard.change(1, 4)
        self.yard.drop(2, 6)
        self.check((0, 1, 2, 3), 2)

    def test_a_part_that_is_parted_by_a_call_that_raises_apart(self):
        self.check((0, 1, 2, 3), 2)
        self.yard.cut(3)
        self.apart(1, 2)
        self.yard.build(4, 5, 4)
        # The ways of the part stand in the same order as before.
        self.check((0, 1, 2, 4), 2)

    def test_a_refused_edit_does_not_matter(self):
        self.check((0, 1, 2, 3), 2)
        for edit, arguments in (
            (self.yard.change, (5, 1)), (self.yard.cut, (5,)),
            (self.yard.want, (0, 2)), (self.yard.drop, (0, 1)),
        ):
            with self.assertRaises(Refused):
                edit(*arguments)
        self.check((0, 1, 2, 3), 2)


class Ledger:
    """What `worked` must say, straight from the document."""

    def __init__(self):
        self.answered = []
        self.many = 0

    def answer(self, net, pairs):
        parts = []
        for places in groups(net, tuple(range(len(net[1])))):
            ways = [way for way in net[1] if set(way[:2]) <= set(places)]
            own = [pair for pair in pairs if set(pair) <= set(places)]
            if own:
                parts.append((places, ways, own))
        self.many += len([part for part in parts if part not in self.answered])
        self.answered = parts


class Drawn(unittest.TestCase):
    def edit(self, chance, yard, places):
        (_, ways), pairs = yard.task()
        a, b = chance.choice(list(combinations(range(places), 2)))
        what = chance.choice(("build", "change", "cut", "want", "drop", "drop"))
        if what == "build":
            yard.build(a, b, chance.randint(1, 5))
        elif what == "change":
            yard.change(chance.randint(0, len(ways)), chance.randint(1, 2))
        elif what == "cut":
            yard.cut(chance.randint(0, len(ways)))
        elif what == "want":
            yard.want(a, b)
        else:
            yard.drop(*chance.choice(pairs + ((a, b),)))

    def test_drawn_edits(self):
        chance = Random(91)
        seen = {"refused": 0, "apart": 0, "told": 0}
        for places in (2, 4, 5, 6, 8, 12) * 3:
            yard, ledger = Yard(places), Ledger()
            for _ in range(places):
                a, b = sorted(chance.sample(range(places), 2))
                yard.build(a, b, chance.randint(1, 5))
            for _ in range(120):
                try:
                    self.edit(chance, yard, places)
                except Refused:
                    seen["refused"] += 1
                if chance.randint(0, 2):
                    seen[self.ask(yard, ledger)] += 1
                self.assertEqual(yard.worked(), ledger.many)
        self.assertGreater(min(seen.values()), 100)

    def ask(self, yard, ledger):
        net, pairs = yard.task()
        try:
            expected = told(net, pairs)
        except Apart as error:
            with self.assertRaises(Apart) as caught:
                yard.told()
            self.assertEqual(caught.exception.index, error.index)
            return "apart"
        ledger.answer(net, pairs)
        self.assertEqual(yard.told(), expected)
        return "told"

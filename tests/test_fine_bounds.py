"""Points [18] and [19]: what the paper of the growth with fines shows."""

import unittest
from random import Random

from moatways.fines import fine_moats, fined, reach
from moatways.papers import is_fine_paper, worth
from tests.helper import (
    as_fraction,
    choices,
    cost_of,
    fine_cost,
    fine_tasks,
    some_net,
    tied_tasks,
)
from tests.test_fine_papers import judged

TASKS = (
    fine_tasks(150, 71)
    + fine_tasks(100, 72, 2, 4)
    + fine_tasks(100, 73, 30, 10)
    + fine_tasks(50, 74, 10000, 10000)
    + tied_tasks(100, 79)
    + [(net, root, (0,) * net[0]) for net, root, _ in fine_tasks(30, 75)]
    + [(net, root, (10000,) * net[0]) for net, root, _ in fine_tasks(30, 76, 10000)]
)


def great_tasks(many, seed):
    chance = Random(seed)
    found = []
    for _ in range(many):
        most_cost, most_fine = chance.choice(((5, 3), (9, 9), (100, 300), (10000, 10000)))
        net = some_net(chance, chance.randint(8, 12), chance.randint(0, 24), most_cost)
        fines = tuple(chance.choice((0, most_fine, chance.randint(0, most_fine)))
                      for _ in range(net[0]))
        found.append((net, chance.randrange(net[0]), fines))
    return found


class FineBounds(unittest.TestCase):
    def check_paper_and_reach(self, net, root, fines):
        paper = fine_moats(net, root, fines)
        self.assertIs(is_fine_paper(net, root, fines, paper), True)
        self.assertTrue(judged(net, root, fines, paper))
        self.assertEqual(paper, tuple(sorted(paper)))
        choice, left = reach(net, root, fines)
        shown = as_fraction(worth(paper))
        paid = cost_of(net, choice) + 2 * sum(fines[place] for place in left)
        self.assertLessEqual(paid, 2 * shown)
        self.assertGreaterEqual(fined(net, root, fines, choice), shown)

    def test_small_nets(self):
        for net, root, fines in TASKS:
            self.check_paper_and_reach(net, root, fines)

    def test_great_nets(self):
        for net, root, fines in great_tasks(150, 77):
            self.check_paper_and_reach(net, root, fines)

    def test_each_root_of_great_nets(self):
        for net, _, fines in great_tasks(10, 78):
            for root in range(net[0]):
                self.check_paper_and_reach(net, root, fines)

    def test_no_choice_costs_less_than_the_paper(self):
        for net, root, fines in TASKS:
            shown = as_fraction(worth(fine_moats(net, root, fines)))
            for choice in choices(net):
                self.assertGreaterEqual(fine_cost(net, root, fines, choice), shown)

    def test_a_changed_paper_is_judged_by_the_rules(self):
        answers = {True: 0, False: 0}
        for net, root, fines in TASKS[:250]:
            paper = fine_moats(net, root, fines)
            for at, (places, width) in enumerate(paper):
                for change in (-1, 1):
                    wider = (places, (3 * width[0] + change * width[1], 3 * width[1]))
                    other = paper[:at] + (wider,) + paper[at + 1:]
                    expected = judged(net, root, fines, other)
                    answers[expected] += 1
                    self.assertIs(is_fine_paper(net, root, fines, other), expected)
        self.assertGreater(min(answers.values()), 100)

"""What several tests need: small nets, and answers worked out straight from the document."""

from fractions import Fraction
from itertools import combinations
from random import Random

EXAMPLE = (4, ((0, 1, 4), (1, 2, 4), (2, 3, 4), (0, 3, 20)))
EXAMPLE_PAIRS = ((0, 2), (1, 3))


def whole(number):
    """The ratio of an integer."""
    return (number, 1)


def as_ratio(number):
    return (number.numerator, number.denominator)


def as_fraction(ratio):
    return Fraction(ratio[0], ratio[1])


def choices(net):
    """All choices of the net."""
    ways = range(len(net[1]))
    return [choice for size in range(len(net[1]) + 1) for choice in combinations(ways, size)]


def connected(net, choice, start):
    """The places that the choice connects with the start, found by walking."""
    reached = {start}
    waiting = [start]
    while waiting:
        here = waiting.pop()
        for way in choice:
            a, b, _ = net[1][way]
            for one, other in ((a, b), (b, a)):
                if one == here and other not in reached:
                    reached.add(other)
                    waiting.append(other)
    return tuple(sorted(reached))


def every_pair_connected(net, pairs, choice):
    return all(b in connected(net, choice, a) for a, b in pairs)


def cost_of(net, choice):
    total = 0
    for way in choice:
        total += net[1][way][2]
    return total


def is_open(group, pairs):
    return any(len({a, b} & set(group)) == 1 for a, b in pairs)


class Ticks:
    """The growth in small steps of time, each moat and each way looked at in each step.

    Each time at which ways are taken at most doubles the bottoms of the times,
    so with steps of 1 / 2 ** places none is missed.
    """

    def __init__(self, net, pairs):
        self.net, self.pairs = net, pairs
        self.groups = [(place,) for place in range(net[0])]
        self.time = Fraction(0)
        self.widths = {}
        self.taken = []
        self.moments = []
        self.note(True)
        step = Fraction(1, 2 ** net[0])
        while self.open_groups():
            self.time += step
            for group in self.open_groups():
                self.widths[group] = self.widths.get(group, 0) + step
            self.note(False)

    def open_groups(self):
        return tuple(group for group in self.groups if is_open(group, self.pairs))

    def crossed(self, way):
        a, b, _ = self.net[1][way]
        return sum(
            width for group, width in self.widths.items() if len({a, b} & set(group)) == 1
        )

    def take_one(self):
        for way, (a, b, cost) in enumerate(self.net[1]):
            first = [group for group in self.groups if a in group][0]
            second = [group for group in self.groups if b in group][0]
            if first != second and self.crossed(way) == cost:
                self.groups.remove(first)
                self.groups.remove(second)
                self.groups.append(tuple(sorted(first + second)))
                self.groups.sort()
                self.taken.append((as_ratio(self.time), way))
                return True
        return False

    def note(self, always):
        some = False
        while self.take_one():
            some = True
        if some or always:
            self.moments.append(
                (as_ratio(self.time), tuple(self.groups), self.open_groups())
            )

    def moats(self):
        return tuple((group, as_ratio(self.widths[group])) for group in sorted(self.widths))


def small_tasks(many, seed, most_cost=6):
    """Different small nets with pairs that all ways together join."""
    chance = Random(seed)
    found = []
    while len(found) < many:
        places = chance.randint(1, 5)
        every = list(combinations(range(places), 2))
        ways = ()
        pairs = ()
        if every:
            ways = tuple(
                chance.choice(every) + (chance.randint(1, most_cost),)
                for _ in range(chance.randint(1, 8))
            )
            pairs = tuple(chance.sample(every, min(len(every), chance.randint(0, 4))))
        net = (places, ways)
        if every_pair_connected(net, pairs, range(len(ways))):
            found.append((net, pairs))
    return found

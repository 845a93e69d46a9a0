"""What several tests need: small nets, and answers worked out straight from the document."""

from fractions import Fraction
from itertools import combinations
from random import Random

EXAMPLE = (4, ((0, 1, 4), (1, 2, 4), (2, 3, 4), (0, 3, 20)))
EXAMPLE_PAIRS = ((0, 2), (1, 3))


def whole(number):
    """The ratio of an integer."""
    return (number, 1)


def as_ratio(number):
    return (number.numerator, number.denominator)


def as_fraction(ratio):
    return Fraction(ratio[0], ratio[1])


def choices(net):
    """All choices of the net."""
    ways = range(len(net[1]))
    return [choice for size in range(len(net[1]) + 1) for choice in combinations(ways, size)]


def connected(net, choice, start):
    """The places that the choice connects with the start, found by walking."""
    reached = {start}
    waiting = [start]
    while waiting:
        here = waiting.pop()
        for way in choice:
            a, b, _ = net[1][way]
            for one, other in ((a, b), (b, a)):
                if one == here and other not in reached:
                    reached.add(other)
                    waiting.append(other)
    return tuple(sorted(reached))


def every_pair_connected(net, pairs, choice):
    return all(b in connected(net, choice, a) for a, b in pairs)


def cost_of(net, choice):
    total = 0
    for way in choice:
        total += net[1][way][2]
    return total


def is_open(group, pairs):
    return any(len({a, b} & set(group)) == 1 for a, b in pairs)


class Ticks:
    """The growth in small steps of time, each moat and each way looked at in each step.

    Each time at which ways are taken at most doubles the bottoms of the times,
    so with steps of 1 / 2 ** places none is missed.
    """

    def __init__(self, net, pairs):
        self.net, self.pairs = net, pairs
        self.groups = [(place,) for place in range(net[0])]
        self.time = Fraction(0)
        self.widths = {}
        self.taken = []
        self.moments = []
        self.note(True)
        step = Fraction(1, 2 ** net[0])
        while self.open_groups():
            self.time += step
            for group in self.open_groups():
                self.widths[group] = self.widths.get(group, 0) + step
            self.note(False)

    def open_groups(self):
        return tuple(group for group in self.groups if is_open(group, self.pairs))

    def crossed(self, way):
        a, b, _ = self.net[1][way]
        return sum(
            width for group, width in self.widths.items() if len({a, b} & set(group)) == 1
        )

    def take_one(self):
        for way, (a, b, cost) in enumerate(self.net[1]):
            first = [group for group in self.groups if a in group][0]
            second = [group for group in self.groups if b in group][0]
            if first != second and self.crossed(way) == cost:
                self.groups.remove(first)
                self.groups.remove(second)
                self.groups.append(tuple(sorted(first + second)))
                self.groups.sort()
                self.taken.append((as_ratio(self.time), way))
                return True
        return False

    def note(self, always):
        some = False
        while self.take_one():
            some = True
        if some or always:
            self.moments.append(
                (as_ratio(self.time), tuple(self.groups), self.open_groups())
            )

    def moats(self):
        return tuple((group, as_ratio(self.widths[group])) for group in sorted(self.widths))


def small_tasks(many, seed, most_cost=6):
    """Different small nets with pairs that all ways together join."""
    chance = Random(seed)
    found = []
    while len(found) < many:
        places = chance.randint(1, 5)
        every = list(combinations(range(places), 2))
        ways = ()
        pairs = ()
        if every:
            ways = tuple(
                chance.choice(every) + (chance.randint(1, most_cost),)
                for _ in range(chance.randint(1, 8))
            )
            pairs = tuple(chance.sample(every, min(len(every), chance.randint(0, 4))))
        net = (places, ways)
        if every_pair_connected(net, pairs, range(len(ways))):
            found.append((net, pairs))
    return found


class FineTicks:
    """The growth with fines in small steps of time, counted in steps of 1 / 2 ** places.

    Each time at which ways are taken at most doubles the bottoms of the times,
    and a rest ends at a time that has the bottom of an earlier one.
    """

    def __init__(self, net, root, fines):
        self.net, self.root, self.fines = net, root, fines
        self.scale = 2 ** net[0]
        self.groups = [(place,) for place in range(net[0])]
        self.widths = {}
        self.taken = []
        self.notes = [(place,) for place in range(net[0]) if place != root and fines[place] == 0]
        # Whether some group came to be tight at a time at which ways were taken,
        # and whether some group came into being with the rest 0.
        self.met = False
        self.born = False
        self.take(())
        while self.awake_groups():
            before = self.awake_groups()
            for group in before:
                self.widths[group] = self.widths.get(group, 0) + 1
            self.take(before)

    def rest(self, group):
        inner = sum(width for own, width in self.widths.items() if set(own) <= set(group))
        return self.scale * sum(self.fines[place] for place in group) - inner

    def awake_groups(self):
        return [
            group for group in self.groups if self.root not in group and self.rest(group) > 0
        ]

    def crossed(self, way):
        a, b, _ = self.net[1][way]
        return sum(width for own, width in self.widths.items() if (a in own) != (b in own))

    def take(self, before):
        """Take the full ways; then note the groups that were awake just now and are tight."""
        some = len(self.taken)
        while self.take_one():
            pass
        become = [
            group for group in self.groups if group in before and self.rest(group) == 0
        ]
        self.notes.extend(become)
        self.met = self.met or (len(self.taken) > some and become != [])

    def take_one(self):
        for way, (a, b, cost) in enumerate(self.net[1]):
            first = [group for group in self.groups if a in group][0]
            second = [group for group in self.groups if b in group][0]
            if first != second and self.crossed(way) == self.scale * cost:
                joined = tuple(sorted(first + second))
                self.groups.remove(first)
                self.groups.remove(second)
                self.groups.append(joined)
                self.groups.sort()
                self.taken.append(way)
                if self.root not in joined and self.rest(joined) == 0:
                    self.notes.append(joined)
                    self.born = True
                return True
        return False

    def moats(self):
        return tuple(
            (group, as_ratio(Fraction(self.widths[group], self.scale)))
            for group in sorted(self.widths)
        )

    def first_kept(self):
        """The taken ways in the group of the root."""
        home = [group for group in self.groups if self.root in group][0]
        return [way for way in self.taken if set(self.net[1][way][:2]) <= set(home)]

    def reach(self, pick):
        """What is reached if `pick` chooses among the noted groups that can be cut off."""
        kept = self.first_kept()
        loose = self.loose(kept)
        while loose:
            group = pick(loose)
            kept = [way for way in kept if not set(self.net[1][way][:2]) & set(group)]
            loose = self.loose(kept)
        choice = tuple(sorted(kept))
        reached = connected(self.net, choice, self.root)
        return choice, tuple(place for place in range(self.net[0]) if place not in reached)

    def loose(self, kept):
        return [
            group
            for group in self.notes
            if sum(len(set(self.net[1][way][:2]) & set(group)) == 1 for way in kept) == 1
        ]


def fine_cost(net, root, fines, choice):
    """The price of the choice and the fines of the places that it does not reach."""
    reached = connected(net, choice, root)
    return cost_of(net, choice) + sum(
        fine for place, fine in enumerate(fines) if place not in reached
    )


def some_net(chance, places, many, most_cost):
    """A net with that many ways, if it has more than one place."""
    every = list(combinations(range(places), 2))
    if not every:
        many = 0
    return (
        places,
        tuple(chance.choice(every) + (chance.randint(1, most_cost),) for _ in range(many)),
    )


def fine_tasks(many, seed, most_cost=6, most_fine=6):
    """Small nets, in one part or in several, with roots and fines, 0 now and then."""
    chance = Random(seed)
    found = []
    for _ in range(many):
        net = some_net(chance, chance.randint(1, 5), chance.randint(0, 7), most_cost)
        fines = tuple(chance.choice((0, most_fine, chance.randint(0, most_fine)))
                      for _ in range(net[0]))
        found.append((net, chance.randrange(net[0]), fines))
    return found


def tied_tasks(many, seed):
    """Tasks with fines in which much comes to pass at the same time."""
    chance = Random(seed)
    found = []
    for _ in range(many):
        places = chance.randint(4, 6)
        every = list(combinations(range(places), 2))
        ways = tuple(
            chance.choice(every) + (chance.choice((2, 4)),) for _ in range(chance.randint(4, 8))
        )
        fines = tuple(chance.choice((0, 1, 2, 2, 3, 4)) for _ in range(places))
        found.append(((places, ways), chance.randrange(places), fines))
    return found

"""Fields: the groups, the moats and the taken ways of a growth at one time."""

from moatways.ratios import ZERO, less, minus, plus, ratio


class Field:
    """It begins with each place as a group of its own; others say which moats grow.

    `time` is the time now, `taken` the pairs (time, way) of the taken ways in
    order, and `widths` has the width of each moat that has grown, by its places.
    """

    def __init__(self, net):
        places, ways = net
        self.time = ZERO
        self.taken = []
        self.widths = {}
        self._ways = ways
        self._homes = [(place,) for place in range(places)]
        self._depths = [ZERO] * places

    def groups_now(self):
        """The groups, ordered by their first places."""
        return tuple(home for place, home in enumerate(self._homes) if home[0] == place)

    def grow(self, rising, span):
        """Let time go on by the span, in which the moats around the rising groups grow."""
        for group in rising:
            self.widths[group] = plus(self.widths.get(group, ZERO), span)
            for place in group:
                self._depths[place] = plus(self._depths[place], span)
        self.time = plus(self.time, span)

    def span_until_full(self, rising):
        """The time until some way between two groups is full, or None if none will be."""
        best = None
        for a, b, cost in self._ways_between():
            speed = len([group for group in (self._homes[a], self._homes[b]) if group in rising])
            if speed > 0:
                slack = self._slack(a, b, cost)
                span = ratio(slack[0], slack[1] * speed)
                if best is None or less(span, best):
                    best = span
        return best

    def take_full_ways(self):
        """Take the full ways between different groups, always the one with the least index.

        Return the groups that came into being, in order.
        """
        born = []
        way = self._first_full_way()
        while way is not None:
            born.append(self._take(way))
            way = self._first_full_way()
        return born

    def paper(self):
        """All moats that have grown, in ascending order of their places."""
        return tuple((places, self.widths[places]) for places in sorted(self.widths))

    def _ways_between(self):
        """The ways between different groups."""
        return [way for way in self._ways if self._homes[way[0]] != self._homes[way[1]]]

    def _first_full_way(self):
        for way, (a, b, cost) in enumerate(self._ways):
            if self._homes[a] != self._homes[b] and not less(ZERO, self._slack(a, b, cost)):
                return way
        return None

    def _slack(self, a, b, cost):
        """What the moats that a way between different groups crosses lack of its cost."""
        # A moat lies around what was once a group, so none has both ends within it
        # and the way crosses all moats around either end.
        return minus((cost, 1), plus(self._depths[a], self._depths[b]))

    def _take(self, way):
        """Take the way and return the group that comes into being."""
        a, b, _ = self._ways[way]
        joined = tuple(sorted(self._homes[a] + self._homes[b]))
        for place in joined:
            self._homes[place] = joined
        self.taken.append((self.time, way))
        return joined

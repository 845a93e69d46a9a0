"""Yards: nets and pairs that are edited."""

from moatways.errors import Refused
from moatways.growths import told
from moatways.nets import MOST_PAIRS, MOST_WAYS, check_joined, every_way, groups


class Yard:
    """A net and pairs that are edited, and what was worked out for their parts."""

    def __init__(self, places):
        self._places = places
        self._ways = []
        self._pairs = []
        # What was told for each part with a pair of the net of the last answer.
        self._known = {}
        self._many = 0

    def build(self, a, b, cost):
        """Put a way behind the others."""
        if len(self._ways) >= MOST_WAYS:
            raise Refused("full")
        self._ways.append((a, b, cost))

    def change(self, way, cost):
        """Give the way another cost."""
        self._check_way(way)
        a, b, _ = self._ways[way]
        self._ways[way] = (a, b, cost)

    def cut(self, way):
        """Remove the way; the later ones move up by one."""
        self._check_way(way)
        del self._ways[way]

    def want(self, a, b):
        """Put a pair behind the others."""
        if (a, b) in self._pairs:
            raise Refused("known")
        if len(self._pairs) >= MOST_PAIRS:
            raise Refused("full")
        self._pairs.append((a, b))

    def drop(self, a, b):
        """Remove the pair."""
        if (a, b) not in self._pairs:
            raise Refused("unknown")
        self._pairs.remove((a, b))

    def task(self):
        """The net and the pairs."""
        return (self._places, tuple(self._ways)), tuple(self._pairs)

    def told(self):
        """What is told for the net and the pairs, each part with a pair worked out by itself."""
        net, pairs = self.task()
        check_joined(net, pairs)
        known = {}
        choice = []
        for part, indexes in _parts_with_pairs(net, pairs):
            known[part] = self._told_of(part)
            choice.extend([indexes[way] for way in known[part]])
        self._known = known
        return tuple(sorted(choice))

    def worked(self):
        """How many parts were worked out since the yard was made."""
        return self._many

    def _told_of(self, part):
        """The told ways of the part, by their indexes in it."""
        if part not in self._known:
            self._many += 1
            # The places of other parts stay alone and change nothing.
            return told((self._places, part[1]), part[2])
        return self._known[part]

    def _check_way(self, way):
        if way < 0 or way >= len(self._ways):
            raise Refused("way")


def _parts_with_pairs(net, pairs):
    """For each part with a pair its places, ways and pairs, and the indexes of its ways."""
    every = every_way(net)
    found = []
    for places in groups(net, every):
        own = tuple(pair for pair in pairs if pair[0] in places)
        if own:
            indexes = [way for way in every if net[1][way][0] in places]
            ways = tuple(net[1][way] for way in indexes)
            found.append(((places, ways, own), indexes))
    return found

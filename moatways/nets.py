"""Nets, pairs and choices."""

from moatways.errors import Apart

MOST_PLACES = 12
MOST_WAYS = 24
MOST_COST = 10000
MOST_PAIRS = 6


def groups(net, choice):
    """The groups of the choice, ordered by their first places."""
    found = {}
    for place, home in enumerate(_homes(net, choice)):
        found.setdefault(home, []).append(place)
    return tuple(tuple(group) for group in found.values())


def joins(net, pairs, choice):
    """Tell whether the choice has the two places of each pair in one group."""
    homes = _homes(net, choice)
    return all(homes[a] == homes[b] for a, b in pairs)


def price(net, choice):
    """The sum of the costs of the choice."""
    ways = net[1]
    return sum(ways[way][2] for way in choice)


def spare(net, pairs, choice):
    """The first way without which the choice joins the pairs, too, or None."""
    for way in choice:
        if joins(net, pairs, without(choice, way)):
            return way
    return None


def every_way(net):
    """The choice of all ways."""
    return tuple(range(len(net[1])))


def without(choice, way):
    """The choice less one of its ways."""
    return tuple(other for other in choice if other != way)


def check_joined(net, pairs):
    """Raise Apart if not even all ways together join the pairs."""
    homes = _homes(net, every_way(net))
    for index, (a, b) in enumerate(pairs):
        if homes[a] != homes[b]:
            raise Apart(index)


def parts_pair(places, pairs):
    """Tell whether just one of the two places of some pair is among the places."""
    return any((a in places) != (b in places) for a, b in pairs)


def _homes(net, choice):
    """For each place the first place of its group."""
    places, ways = net
    homes = list(range(places))
    for way in choice:
        a, b, _ = ways[way]
        low = min(homes[a], homes[b])
        high = max(homes[a], homes[b])
        homes = [low if home == high else home for home in homes]
    return homes

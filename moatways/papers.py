"""The judges of papers, and their worth."""

from moatways.nets import parts_pair
from moatways.ratios import ZERO, less, minus, plus


def is_paper(net, pairs, paper):
    """Tell whether this is a paper for the net and the pairs."""
    return (
        _has_form(net, paper)
        and all(parts_pair(moat[0], pairs) for moat in paper)
        and _ways_bear(net, paper)
    )


def worth(paper):
    """The sum of all widths, a ratio."""
    total = ZERO
    for moat in paper:
        total = plus(total, moat[1])
    return total


def is_fine_paper(net, root, fines, paper):
    """Tell whether this is a paper for the net with the root and the fines."""
    return (
        _has_form(net, paper)
        and all(root not in moat[0] for moat in paper)
        and _are_nested(paper)
        and _ways_bear(net, paper)
        and all(not less(rest_of_fines(fines, moat[0], paper), ZERO) for moat in paper)
    )


def rest_of_fines(fines, places, paper):
    """The fines of the places less the widths of the moats around them and within."""
    inner = [moat for moat in paper if _lies_within(moat[0], places)]
    return minus((sum(fines[place] for place in places), 1), worth(inner))


def _has_form(net, paper):
    """Tell whether the moats have widths above 0 and lie around different sets of places."""
    different = len({moat[0] for moat in paper}) == len(paper)
    return different and all(
        _is_set(net, moat[0]) and less(ZERO, moat[1]) for moat in paper
    )


def _is_set(net, places):
    """Tell whether the tuple has places of the net, in ascending order, each once."""
    if not places:
        return False
    ascending = all(low < high for low, high in zip(places, places[1:]))
    return ascending and 0 <= places[0] and places[-1] < net[0]


def _ways_bear(net, paper):
    """Tell whether for each way the moats that it crosses are at most as wide as its cost."""
    return all(_way_bears(way, paper) for way in net[1])


def _way_bears(way, paper):
    a, b, cost = way
    crossed = worth([moat for moat in paper if (a in moat[0]) != (b in moat[0])])
    return not less((cost, 1), crossed)


def _are_nested(paper):
    """Tell whether of each two moats one lies within the other or they share no place."""
    return all(
        _fit(moat[0], other[0]) for at, moat in enumerate(paper) for other in paper[:at]
    )


def _fit(first, second):
    shared = len([place for place in first if place in second])
    return shared in (0, len(first), len(second))


def _lies_within(inner, outer):
    return all(place in outer for place in inner)

"""The growth of the moats around open groups, and the ways that it tells."""

from moatways.fields import Field
from moatways.nets import check_joined, joins, parts_pair, without


def growth(net, pairs):
    """The pairs (time, way) of the ways that were taken, in order."""
    field, _ = _grown(net, pairs)
    return tuple(field.taken)


def moments(net, pairs):
    """The triples (time, groups, open groups) of time 0 and of each time with taken ways."""
    _, seen = _grown(net, pairs)
    return tuple(seen)


def told(net, pairs):
    """The taken ways that remain when the spare ones are left out, from the last one on."""
    order = [taken[1] for taken in growth(net, pairs)]
    kept = tuple(sorted(order))
    for way in reversed(order):
        rest = without(kept, way)
        if joins(net, pairs, rest):
            kept = rest
    return kept


def moats(net, pairs):
    """The paper of all moats that have grown, in ascending order of their places."""
    field, _ = _grown(net, pairs)
    return field.paper()


def _grown(net, pairs):
    """The field at the end of the growth, and the list of its moments."""
    check_joined(net, pairs)
    field = Field(net)
    field.take_full_ways()
    rising = _open_groups(field, pairs)
    seen = [(field.time, field.groups_now(), rising)]
    while rising:
        # While a group is open, a way leads out of it, since all ways join the pairs.
        field.grow(rising, field.span_until_full(rising))
        field.take_full_ways()
        rising = _open_groups(field, pairs)
        seen.append((field.time, field.groups_now(), rising))
    return field, seen


def _open_groups(field, pairs):
    return tuple(group for group in field.groups_now() if parts_pair(group, pairs))

"""The least price of joining a few pairs."""

from moatways.nets import check_joined


def least_price(net, pairs):
    """The least price of all choices that join the pairs."""
    check_joined(net, pairs)
    ends = sorted({place for pair in pairs for place in pair})
    trees = _trees(_lengths(net), ends)
    # Sets of pairs, and of ends, are the bits of a number. Either one tree joins all
    # pairs of a set, or two parts of the set are joined for themselves.
    least = [0]
    for chosen in range(1, 1 << len(pairs)):
        joined = [pair for at, pair in enumerate(pairs) if chosen >> at & 1]
        prices = [trees[_bits_of_ends(ends, joined)][joined[0][0]]]
        prices.extend([least[part] + least[chosen - part] for part in _parts(chosen)])
        least.append(min(prices))
    return least[-1]


def _lengths(net):
    """For each two places the least price of ways that lead from one to the other."""
    places, ways = net
    # More than all ways together cost: where no ways lead, and never the least price.
    far = 1 + sum(way[2] for way in ways)
    lengths = [[far] * places for _ in range(places)]
    for place in range(places):
        lengths[place][place] = 0
    for a, b, cost in ways:
        lengths[a][b] = min(lengths[a][b], cost)
        lengths[b][a] = lengths[a][b]
    for middle in range(places):
        for here in range(places):
            for there in range(places):
                around = lengths[here][middle] + lengths[middle][there]
                lengths[here][there] = min(lengths[here][there], around)
    return lengths


def _trees(lengths, ends):
    """For each set of ends and each place the least price of a tree that joins them all."""
    trees = [[0] * len(lengths)]
    for chosen in range(1, 1 << len(ends)):
        parts = _parts(chosen)
        if parts:
            forks = [_least_fork(trees, chosen, parts, place) for place in range(len(lengths))]
            trees.append([_least_stem(lengths[place], forks) for place in range(len(lengths))])
        else:
            trees.append(lengths[ends[chosen.bit_length() - 1]])
    return trees


def _least_fork(trees, chosen, parts, place):
    """The least price of two trees that meet at the place and share the ends."""
    return min(trees[part][place] + trees[chosen - part][place] for part in parts)


def _least_stem(lengths, forks):
    """The least price of a line of ways and the fork at which it ends."""
    return min(length + fork for length, fork in zip(lengths, forks))


def _bits_of_ends(ends, pairs):
    """The set of those ends that belong to the pairs."""
    joined = [place for pair in pairs for place in pair]
    return sum(1 << at for at, end in enumerate(ends) if end in joined)


def _parts(chosen):
    """The sets that have some, but not all members of the chosen set."""
    return [part for part in range(1, chosen) if part & chosen == part]

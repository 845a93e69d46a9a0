"""The growth with fines: places are reached from a root, or left out against their fines."""

from moatways.fields import Field
from moatways.nets import groups, price
from moatways.papers import rest_of_fines
from moatways.ratios import ZERO, less


def fined(net, root, fines, choice):
    """The cost of the choice: its price and the fines of the places that are not reached."""
    return price(net, choice) + sum(fines[place] for place in _left(net, root, choice))


def reach(net, root, fines):
    """The ways that are kept in the end, and the places that they do not reach."""
    grown = FineGrowth(net, root, fines)
    home = _group_of(root, grown.field.groups_now())
    taken = [way for _, way in grown.field.taken]
    kept = [way for way in taken if _ends_within(net, way, home) == 2]
    choice = tuple(sorted(_cut_off(net, grown.notes, kept)))
    return choice, _left(net, root, choice)


def fine_moats(net, root, fines):
    """The paper of all moats that have grown, in ascending order of their places."""
    return FineGrowth(net, root, fines).field.paper()


class FineGrowth:
    """The growth with fines: the field at its end, and the notes of the tight groups in order."""

    def __init__(self, net, root, fines):
        self.field = Field(net)
        self.notes = []
        self._root = root
        self._fines = fines
        self._note(self.field.groups_now())
        self._take_and_note()
        awake = self._awake_groups()
        while awake:
            self.field.grow(awake, self._span_until_change(awake))
            self._take_and_note()
            awake = self._awake_groups()

    def _take_and_note(self):
        self._note(self.field.take_full_ways())
        self._note(self.field.groups_now())

    def _note(self, found):
        """Note those of the groups that are tight and not noted yet."""
        for group in found:
            tight = self._root not in group and not less(ZERO, self._rest(group))
            if tight and group not in self.notes:
                self.notes.append(group)

    def _awake_groups(self):
        return tuple(
            group
            for group in self.field.groups_now()
            if self._root not in group and less(ZERO, self._rest(group))
        )

    def _rest(self, group):
        return rest_of_fines(self._fines, group, self.field.paper())

    def _span_until_change(self, awake):
        """The time until a way is full or an awake group is tight."""
        best = self.field.span_until_full(awake)
        for group in awake:
            rest = self._rest(group)
            if best is None or less(rest, best):
                best = rest
        return best


def _cut_off(net, notes, kept):
    """The kept ways that remain when noted groups with just one kept way out are cut off."""
    left = kept
    group = _first_to_cut(net, notes, left)
    while group is not None:
        left = [way for way in left if _ends_within(net, way, group) == 0]
        group = _first_to_cut(net, notes, left)
    return left


def _first_to_cut(net, notes, kept):
    for group in notes:
        if len([way for way in kept if _ends_within(net, way, group) == 1]) == 1:
            return group
    return None


def _ends_within(net, way, places):
    """How many of the two ends of the way are among the places."""
    a, b, _ = net[1][way]
    return len([end for end in (a, b) if end in places])


def _left(net, root, choice):
    """The places that the choice does not reach."""
    home = _group_of(root, groups(net, choice))
    return tuple(place for place in range(net[0]) if place not in home)


def _group_of(place, found):
    """The one of the groups that has the place in it."""
    return [group for group in found if place in group][0]

"""The text of a net and pairs."""

from moatways.errors import BadText
from moatways.nets import MOST_COST, MOST_PAIRS, MOST_PLACES, MOST_WAYS


def write_task(net, pairs):
    """The text: a line for the places, for each way and for each pair."""
    places, ways = net
    lines = [f"places {places}\n"]
    lines.extend([f"way {a} {b} {cost}\n" for a, b, cost in ways])
    lines.extend([f"pair {a} {b}\n" for a, b in pairs])
    return "".join(lines)


def read_task(text):
    """The net and the pairs whose text it is; raise BadText if there are none."""
    lines = text.split("\n")
    behind = lines.pop()
    # Without any newline what is there is line 1, even if it is empty.
    if behind != "" or not lines:
        lines.append(behind)
    reader = Reader()
    for number, line in enumerate(lines, start=1):
        if not reader.takes(line):
            raise BadText(number)
    if behind != "":
        raise BadText(len(lines))
    return (reader.places, tuple(reader.ways)), tuple(reader.pairs)


class Reader:
    """What the lines of a text have told so far."""

    def __init__(self):
        self.places = None
        self.ways = []
        self.pairs = []

    def takes(self, line):
        """Take the line in and return True, or return False if it cannot stand here."""
        words = line.split(" ")
        if self.places is None:
            return self._takes_places(words)
        if words[0] == "way":
            return self._takes_way(words)
        return self._takes_pair(words)

    def _takes_places(self, words):
        if len(words) == 2 and words[0] == "places":
            self.places = _number(words[1], 1, MOST_PLACES)
        return self.places is not None

    def _takes_way(self, words):
        if len(words) != 4 or self.pairs or len(self.ways) >= MOST_WAYS:
            return False
        ends = _ends(words[1], words[2], self.places)
        cost = _number(words[3], 1, MOST_COST)
        if ends is None or cost is None:
            return False
        self.ways.append((ends[0], ends[1], cost))
        return True

    def _takes_pair(self, words):
        if len(words) != 3 or words[0] != "pair" or len(self.pairs) >= MOST_PAIRS:
            return False
        ends = _ends(words[1], words[2], self.places)
        if ends is None or ends in self.pairs:
            return False
        self.pairs.append(ends)
        return True


def _ends(first, second, places):
    """The two different places that the words tell, in ascending order, or None."""
    a = _number(first, 0, places - 1)
    b = _number(second, 0, places - 1)
    if a is None or b is None or a >= b:
        return None
    return (a, b)


def _number(word, low, high):
    """The integer from low to high that the word tells, or None."""
    # The length comes first, since Python refuses to read very long integers.
    if len(word) > len(str(high)) or not (word.isascii() and word.isdigit()):
        return None
    number = int(word)
    if str(number) != word or number < low or number > high:
        return None
    return number

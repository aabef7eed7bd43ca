"""Nets: places, the ties between them, and the places that watch."""

from tiesums.errors import BadNet, BadTie, Few, Full, Last, NoPlace, NoWatcher, Watches

LONGEST_NAME = 8
FEWEST_PLACES = 3
MOST_PLACES = 8
FEWEST_WATCHERS = 2
MOST_TIES = 14
# The number of the line of the first tie: a text with fewer lines lacks one.
FIRST_TIE_LINE = 3


def _is_name(word):
    return len(word) <= LONGEST_NAME and word.isascii() and word.isalpha() and word.islower()


def in_sequence(places, some):
    """The lot of those places that are among some."""
    return tuple([place for place in places if place in some])


def _read_places(line):
    word, *names = line.split(" ")
    if word != "places" or not FEWEST_PLACES <= len(names) <= MOST_PLACES:
        raise BadNet(1)
    if len(set(names)) != len(names) or not all([_is_name(name) for name in names]):
        raise BadNet(1)
    return tuple(names)


def _read_watchers(line, places):
    word, *names = line.split(" ")
    lot = tuple(names)
    if word != "watchers" or len(lot) < FEWEST_WATCHERS or lot != in_sequence(places, lot):
        raise BadNet(2)
    return lot


def _may_be_tied(at, names):
    """Whether two names may be written as a tie of places that stand at these numbers."""
    return len(names) == 2 and names[0] in at and names[1] in at and at[names[0]] < at[names[1]]


def _read_ties(lines, places):
    """The number of each tie, by its two places in either sequence."""
    at = {place: number for number, place in enumerate(places)}
    numbers = {}
    for number, line in enumerate(lines):
        word, *names = line.split(" ")
        if word != "tie" or number == MOST_TIES or not _may_be_tied(at, names) or (names[0], names[1]) in numbers:
            raise BadNet(number + FIRST_TIE_LINE)
        numbers[(names[0], names[1])] = number
        numbers[(names[1], names[0])] = number
    return numbers


def text_of(places, watchers, ties):
    """The text of the net of these."""
    rows = [("places", *places), ("watchers", *watchers)] + [("tie", *tie) for tie in ties]
    return "\n".join([" ".join(row) for row in rows])


class Net:
    """A net, read from its text. It is never changed: each change makes another one."""

    def __init__(self, text):
        if not isinstance(text, str):
            raise BadNet(0)
        lines = text.split("\n")
        if len(lines) < FIRST_TIE_LINE:
            # No line of a net is empty, so this one is refused as the missing line.
            lines.append("")
        self.text = text
        self.places = _read_places(lines[0])
        self.watchers = _read_watchers(lines[1], self.places)
        self.numbers = _read_ties(lines[2:], self.places)
        # Each tie is there twice, first as it is written.
        self.ties = tuple(list(self.numbers)[::2])
        # What ways.py and blind.py find out about the net when it is asked for the first time.
        self.walked = None
        self.sight = None
        self.surely = None
        self.plan = None

    def __eq__(self, other):
        return isinstance(other, Net) and self.text == other.text

    def __len__(self):
        return len(self.ties)

    def __contains__(self, tie):
        return tie in self.ties

    def tied(self, place):
        """The lot of all places that are tied to this one."""
        self._need_place(place)
        return tuple([other for other in self.places if (place, other) in self.numbers])

    def with_watcher(self, place):
        """The net in which this place watches, too."""
        self._need_place(place)
        if place in self.watchers:
            raise Watches(place)
        watchers = in_sequence(self.places, (*self.watchers, place))
        return Net(text_of(self.places, watchers, self.ties))

    def without_watcher(self, place):
        """The net in which this place does not watch."""
        self._need_place(place)
        if place not in self.watchers:
            raise NoWatcher(place)
        if len(self.watchers) == FEWEST_WATCHERS:
            raise Few(FEWEST_WATCHERS)
        watchers = tuple([other for other in self.watchers if other != place])
        return Net(text_of(self.places, watchers, self.ties))

    def with_tie(self, one, other):
        """The net in which these two places are tied, too, behind the other ties."""
        self._need_place(one)
        self._need_place(other)
        pair = self._pair(one, other)
        if one == other or pair in self.ties:
            raise BadTie((one, other))
        if len(self.ties) == MOST_TIES:
            raise Full(MOST_TIES)
        return Net(text_of(self.places, self.watchers, (*self.ties, pair)))

    def without_tie(self, one, other):
        """The net in which these two places are not tied."""
        self._need_place(one)
        self._need_place(other)
        pair = self._pair(one, other)
        if pair not in self.ties:
            raise BadTie((one, other))
        if len(self.ties) == 1:
            raise Last((one, other))
        ties = tuple([tie for tie in self.ties if tie != pair])
        return Net(text_of(self.places, self.watchers, ties))

    def _need_place(self, place):
        if place not in self.places:
            raise NoPlace(place)

    def _pair(self, one, other):
        # The tie as it is written, whichever of its places is named first.
        return in_sequence(self.places, (one, other))

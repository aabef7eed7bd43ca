"""What sums that were told along some ways let be known, and which of them cannot be right together."""

from math import gcd

from tiesums.errors import BadReadings, Torn
from tiesums.fractions import are_fractions, cut, is_fraction, is_integer
from tiesums.rows import (
    MINUS_ONE, ZERO, Sight, cleared, counted, difference_of, in_integers, made, sum_along, worth_of)
from tiesums.told import need_weights
from tiesums.ways import is_way, row_of, walked

MOST_READINGS = 10


class Ahead:
    """Which ways of a net to go next, if some differences are hidden still.

    firsts: the first way for each mark of the ways that were looked at.
    """

    def __init__(self, net, hidden):
        self.hidden = hidden
        # No way shows more of a difference than this, nor less than minus this.
        self.most = max([sum([abs(part) for part in one]) for one in hidden])
        self.marks = [self._mark([one[tie] for one in hidden]) for tie in range(len(net))]
        self.steps = list(walked(net).items())
        self.looked = 0
        self.firsts = {}

    def _mark(self, shown):
        """One integer for what is shown of all differences. What is shown together has the sum of the marks."""
        mark = 0
        for one in shown:
            mark = mark * (2 * self.most + 1) + one
        return mark

    def _wanted(self, weights):
        """The marks of all that makes the weights sure: what they show themselves, some times."""
        _, tops = in_integers(weights)
        shown = [worth_of(tops, one) for one in self.hidden]
        divisor = 0
        for one in shown:
            divisor = gcd(divisor, one)
        once = [one // divisor for one in shown]
        times, mark = self.most // max([abs(one) for one in once]), self._mark(once)
        return {many * mark: True for many in range(-times, times + 1) if many != 0}

    def way_for(self, weights):
        """The first way that makes the weights, of which something is hidden, sure. None if there is none."""
        wanted = self._wanted(weights)
        found = [self.firsts[mark] for mark in wanted if mark in self.firsts]
        if len(found) > 0:
            return min(found)
        for way, row in self.steps[self.looked:]:
            self.looked += 1
            mark = sum_along(row, self.marks)
            self.firsts.setdefault(mark, way)
            if mark in wanted:
                return way
        return None


class Report:
    """What readings, heard one by one, show of the costs of so many ties.

    torn: numbers of the readings that show that no costs fit, None if some do. As long as some do, the tops, each
    divided by low, are costs that fit. ahead: an Ahead for the net of the readings, None until it is asked for.
    """

    def __init__(self, many):
        self.rows = []
        self.amounts = []
        self.sight = Sight(many)
        self.low = 1
        self.tops = [0] * many
        self.torn = None
        self.ahead = None

    def copy(self):
        """Another one that has heard the same, for a net that may have other ways."""
        other = Report(0)
        other.rows, other.amounts = list(self.rows), list(self.amounts)
        other.sight = self.sight.copy()
        other.low, other.tops, other.torn = self.low, self.tops, self.torn
        return other

    def hear(self, row, amount):
        """Hears a reading of a way along this row behind the others."""
        taken = self.sight.look(len(self.rows), row)
        if self.torn is None:
            self._fit(row, amount, taken)
        else:
            self.torn = (*self.torn, ZERO)
        self.rows.append(row)
        self.amounts.append(amount)

    def _fit(self, row, amount, taken):
        wanted = amount * self.low - sum_along(row, self.tops)
        if wanted != 0 and taken:
            self._add(row, self.sight.taken[-1][2], wanted)
        elif wanted != 0:
            self.torn = self._against(row)

    def _add(self, row, difference, wanted):
        # The rows ahead of it hide the difference: their sums stay as they are.
        step, times = cut(wanted, abs(sum_along(row, difference)))
        if sum_along(row, difference) < 0:
            step = -step
        self.tops = [top * times + step * one for top, one in zip(self.tops, difference)]
        self.low = self.low * times

    def _against(self, row):
        """Numbers that show that a reading along this row cannot be right if those are by which the row is made."""
        return self.numbers_of(counted(row, len(self.tops))) + (MINUS_ONE,)

    def numbers_of(self, weights):
        """The numbers of the readings that make the weights."""
        found = {at: number for at, number in self.sight.making(weights)}
        return tuple([found.get(at, ZERO) for at in range(len(self.rows))])

    def worth(self, weights):
        """The worth of costs that fit."""
        low, tops = in_integers(weights)
        return cut(worth_of(tops, self.tops), low * self.low)

    def costs(self):
        """Costs that fit."""
        return tuple([cut(top, self.low) for top in self.tops])

    def others(self, difference):
        """Costs that fit as well, above those by a difference that all readings hide."""
        return tuple([cut(top + self.low * one, self.low) for top, one in zip(self.tops, difference)])


def _is_reading(net, value):
    return isinstance(value, tuple) and len(value) == 2 and is_way(net, value[0]) and is_integer(value[1])


def _need_readings(net, readings):
    if not isinstance(readings, tuple) or len(readings) > MOST_READINGS:
        raise BadReadings(readings)
    if not all([_is_reading(net, reading) for reading in readings]):
        raise BadReadings(readings)


def _heard(net, readings):
    report = Report(len(net))
    for way, amount in readings:
        report.hear(row_of(net, way), amount)
    return report


def _fit(report, costs):
    """Whether any value is costs that fit."""
    if not are_fractions(costs) or len(costs) != len(report.tops):
        return False
    low, tops = in_integers(costs)
    return all([sum_along(row, tops) == amount * low for row, amount in zip(report.rows, report.amounts)])


def _make(report, numbers, weights):
    """Whether any value is numbers of the readings that make the weights."""
    if not are_fractions(numbers) or len(numbers) != len(report.rows):
        return False
    return made(report.rows, numbers, len(report.tops)) == weights


def fitting(net, readings):
    """("costs", costs that fit), or ("torn", numbers of the readings that show that none do)."""
    _need_readings(net, readings)
    report = _heard(net, readings)
    if report.torn is None:
        return ("costs", report.costs())
    return ("torn", report.torn)


def shows_fitting(net, readings, value):
    """Whether any value is such a result as fitting tells of these readings."""
    _need_readings(net, readings)
    if not isinstance(value, tuple) or len(value) != 2:
        return False
    report = _heard(net, readings)
    if value[0] == "costs":
        return _fit(report, value[1])
    if value[0] != "torn" or not _make(report, value[1], (ZERO,) * len(net)):
        return False
    _, tops = in_integers(value[1])
    return worth_of(tops, report.amounts) != 0


def _untorn(net, readings, weights):
    _need_readings(net, readings)
    need_weights(net, weights)
    report = _heard(net, readings)
    if report.torn is not None:
        raise Torn(report.torn)
    return report


def reckoned(net, readings, weights):
    """("sure", worth, numbers of the readings that make the weights), or ("open", costs, others) that both fit."""
    return reckoned_of(_untorn(net, readings, weights), weights)


def reckoned_of(report, weights):
    """What reckoned tells of what the report heard."""
    difference = report.sight.unseen(weights)
    if difference is None:
        return ("sure", report.worth(weights), report.numbers_of(weights))
    return ("open", report.costs(), report.others(difference))


def shows_reckoned(net, readings, weights, value):
    """Whether any value is such a result as reckoned tells of these weights."""
    return shows_reckoned_of(_untorn(net, readings, weights), weights, value)


def shows_reckoned_of(report, weights, value):
    """Whether any value is such a result as reckoned tells of what the report heard."""
    if not isinstance(value, tuple) or len(value) != 3:
        return False
    if value[0] == "sure":
        return is_fraction(value[1]) and value[1] == report.worth(weights) and _make(report, value[2], weights)
    if value[0] != "open" or not _fit(report, value[1]) or not _fit(report, value[2]):
        return False
    _, tops = in_integers(weights)
    return worth_of(tops, difference_of(value[1], value[2])) != 0


def known_of(report):
    """The ascending tuple of (number, cost) for all ties of whose costs what the report heard is sure."""
    costs, hidden = report.costs(), report.sight.hidden
    return tuple([(tie, cost) for tie, cost in enumerate(costs) if not any([one[tie] for one in hidden])])


def _rings(report):
    """Lists of integers, as few as can be: numbers of the readings that make nothing, of which all others are made.

    Behind these numbers each has what the sums, each times its number, come to.
    """
    taken, found = [name for name, _, _ in report.sight.taken], []
    for at, row in enumerate(report.rows):
        if at not in taken:
            terms = report.sight.making(counted(row, len(report.tops)))
            low, tops = in_integers([number for name, number in terms])
            ring = [0] * len(report.rows)
            for (name, _), top in zip(terms, tops):
                ring[name] = top
            ring[at] = -low
            found.append([*ring, worth_of(ring, report.amounts)])
    return found


def _conflicts(rings, left):
    """Masks of readings, none of them left out, that cannot be right together. [] if all others can be."""
    for at in left:
        found = [ring[at] for ring in rings]
        if any(found):
            rings = cleared(rings, found)
    return [_mask(ring[:-1]) for ring in rings if ring[-1] != 0]


def _mask(numbers):
    return sum([1 << at for at, number in enumerate(numbers) if number != 0])


def _left_out(report):
    """The numbers of as few readings as can be without which some costs fit, the first ones of several such."""
    if report.torn is None:
        return ()
    rings = _rings(report)
    conflicts, several = [], [((), 0)]
    while True:
        # One reading of each conflict has to be left out, so most that leave one as it is need no look.
        able = _meeting(several, conflicts)
        while len(able) > 0:
            left = able[0][0]
            found = _conflicts(rings, left)
            if len(found) == 0:
                return left
            conflicts.extend(found)
            able = _meeting(able, found)
        several = _longer(several, len(report.rows), conflicts)


def _meeting(several, conflicts):
    """Those (numbers, mask) that meet all of these conflicts."""
    for conflict in conflicts:
        several = [some for some in several if some[1] & conflict != 0]
    return several


def _longer(several, many, conflicts):
    """All (numbers, mask) with one number more, behind the others but below many, that can still meet all conflicts."""
    for conflict in conflicts:
        # A mask below the conflict has still to come to the highest number of it.
        several = [some for some in several if some[1] & conflict != 0 or some[1] < conflict]
    return [((*left, at), mask | 1 << at) for left, mask in several for at in range(mask.bit_length(), many)]


def _rest(readings, left):
    return tuple([reading for at, reading in enumerate(readings) if at not in left])


def mended(net, readings):
    """(left, costs): which readings, as few as can be, are left out, and costs that fit all others."""
    _need_readings(net, readings)
    report = _heard(net, readings)
    left = _left_out(report)
    if len(left) > 0:
        report = _heard(net, _rest(readings, left))
    return (left, report.costs())


def shows_mended(net, readings, value):
    """Whether any value is such a result as mended tells of these readings."""
    _need_readings(net, readings)
    if not isinstance(value, tuple) or len(value) != 2 or not isinstance(value[0], tuple):
        return False
    left, costs = value
    if not all([is_integer(at) for at in left]) or not _fit(_heard(net, _rest(readings, left)), costs):
        return False
    # If all of them fit, none is to be left out.
    return len(left) == 0 or left == _left_out(_heard(net, readings))


def next_way(net, readings, weights):
    """("sure",) if reckoned tells it; otherwise the first ("way", way) by which it would; ("more",) if none does."""
    return next_of(net, _untorn(net, readings, weights), weights)


def next_of(net, report, weights):
    """What next_way tells of what the report, which always has the same net, heard."""
    if report.sight.unseen(weights) is None:
        return ("sure",)
    if report.ahead is None:
        report.ahead = Ahead(net, report.sight.hidden)
    way = report.ahead.way_for(weights)
    return ("more",) if way is None else ("way", way)

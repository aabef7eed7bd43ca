"""What sums that were told along some ways let be known, and which of them cannot be right together."""

from itertools import combinations

from tiesums.errors import BadReadings, Torn
from tiesums.fractions import ONE, are_fractions, cut, is_fraction, is_integer, total
from tiesums.rows import MINUS_ONE, ZERO, Sight, in_integers, made, sum_along, worth_of
from tiesums.told import need_weights
from tiesums.ways import are_costs, is_way, row_of, walked

MOST_READINGS = 10


class Report:
    """What readings show of the costs: torn are numbers that show that no costs fit, None if some do.

    If some do, the tops, each divided by low, are costs that fit.
    """

    def __init__(self, net, readings):
        self.rows = [row_of(net, way) for way, amount in readings]
        self.sight = Sight(len(net))
        for at, row in enumerate(self.rows):
            self.sight.look(at, row)
        self.low = 1
        self.tops = [0] * len(net)
        self.torn = self._fit([amount for way, amount in readings])

    def _fit(self, amounts):
        differences = {at: difference for at, _, difference in self.sight.taken}
        for at, row in enumerate(self.rows):
            wanted = amounts[at] * self.low - sum_along(row, self.tops)
            if wanted != 0 and at not in differences:
                return self._against(at)
            if wanted != 0:
                self._add(row, differences[at], wanted)
        return None

    def _add(self, row, difference, wanted):
        # The rows ahead of it hide the difference: their sums stay as they are.
        step, times = cut(wanted, abs(sum_along(row, difference)))
        if sum_along(row, difference) < 0:
            step = -step
        self.tops = [top * times + step * one for top, one in zip(self.tops, difference)]
        self.low = self.low * times

    def _against(self, at):
        """Numbers that show that the reading cannot be right if those ahead of it are, by which it is made."""
        numbers = list(self.numbers_of(made([self.rows[at]], [ONE], len(self.tops))))
        numbers[at] = MINUS_ONE
        return tuple(numbers)

    def numbers_of(self, weights):
        """The numbers of the readings that make the weights."""
        found = {at: number for at, number in self.sight.making(weights)}
        return tuple([found.get(at, ZERO) for at in range(len(self.rows))])

    def costs(self):
        """Costs that fit."""
        return tuple([cut(top, self.low) for top in self.tops])

    def others(self, difference):
        """Costs that fit as well, above those by a difference that all readings hide."""
        return tuple([cut(top + self.low * one, self.low) for top, one in zip(self.tops, difference)])


def _is_reading(net, value):
    return isinstance(value, tuple) and len(value) == 2 and is_way(net, value[0]) and is_integer(value[1])


def _need_readings(net, readings):
    if not isinstance(readings, tuple) or len(readings) > MOST_READINGS:
        raise BadReadings(readings)
    if not all([_is_reading(net, reading) for reading in readings]):
        raise BadReadings(readings)


def _fit(net, readings, costs):
    """Whether any value is costs that fit."""
    if not are_costs(net, costs):
        return False
    low, tops = in_integers(costs)
    return all([sum_along(row_of(net, way), tops) == amount * low for way, amount in readings])


def _make(net, readings, numbers, weights):
    """Whether any value is numbers of the readings that make the weights."""
    if not are_fractions(numbers) or len(numbers) != len(readings):
        return False
    return made([row_of(net, way) for way, amount in readings], numbers, len(net)) == weights


def fitting(net, readings):
    """("costs", costs that fit), or ("torn", numbers of the readings that show that none do)."""
    _need_readings(net, readings)
    report = Report(net, readings)
    if report.torn is None:
        return ("costs", report.costs())
    return ("torn", report.torn)


def shows_fitting(net, readings, value):
    """Whether any value is such a result as fitting tells of these readings."""
    _need_readings(net, readings)
    if not isinstance(value, tuple) or len(value) != 2:
        return False
    if value[0] == "costs":
        return _fit(net, readings, value[1])
    if value[0] != "torn" or not _make(net, readings, value[1], (ZERO,) * len(net)):
        return False
    _, tops = in_integers(value[1])
    return worth_of(tops, [amount for way, amount in readings]) != 0


def _report(net, readings, weights):
    _need_readings(net, readings)
    need_weights(net, weights)
    report = Report(net, readings)
    if report.torn is not None:
        raise Torn(report.torn)
    return report


def reckoned(net, readings, weights):
    """("sure", worth, numbers of the readings that make the weights), or ("open", costs, others) that both fit."""
    report = _report(net, readings, weights)
    difference = report.sight.unseen(weights)
    if difference is None:
        return ("sure", total(report.costs(), weights), report.numbers_of(weights))
    return ("open", report.costs(), report.others(difference))


def shows_reckoned(net, readings, weights, value):
    """Whether any value is such a result as reckoned tells of these weights."""
    report = _report(net, readings, weights)
    if not isinstance(value, tuple) or len(value) != 3:
        return False
    if value[0] == "sure":
        right = is_fraction(value[1]) and value[1] == total(report.costs(), weights)
        return right and _make(net, readings, value[2], weights)
    if value[0] != "open" or not _fit(net, readings, value[1]) or not _fit(net, readings, value[2]):
        return False
    return total(value[1], weights) != total(value[2], weights)


def known(net, readings):
    """The ascending tuple of (number, cost) for all ties of whose costs readings that some costs fit are sure."""
    report = Report(net, readings)
    costs = report.costs()
    sure = [tie for tie in range(len(net)) if not any([one[tie] for one in report.sight.hidden])]
    return tuple([(tie, costs[tie]) for tie in sure])


def _without(readings, left):
    return tuple([reading for at, reading in enumerate(readings) if at not in left])


def _conflict(net, readings, left):
    """Numbers of readings, none of them left out, that cannot be right together. () if costs fit all others."""
    torn = Report(net, _without(readings, left)).torn
    if torn is None:
        return ()
    kept = [at for at in range(len(readings)) if at not in left]
    return tuple([at for at, number in zip(kept, torn) if number != ZERO])


def _mask(some):
    return sum([1 << at for at in some])


def _ends_all(conflicts, left):
    for conflict in conflicts:
        if conflict & left == 0:
            return False
    return True


def _left_out(net, readings):
    """The numbers of as few readings as can be without which some costs fit, the first ones of several such."""
    conflicts, numbers = [], list(range(len(readings)))
    for many in range(len(readings)):
        for left in combinations(numbers, many):
            # One reading of each conflict has to be left out, so most that leave one as it is need no look.
            if _ends_all(conflicts, _mask(left)):
                conflict = _conflict(net, readings, left)
                if len(conflict) == 0:
                    return left
                conflicts.append(_mask(conflict))
    return ()


def mended(net, readings):
    """(left, costs): which readings, as few as can be, are left out, and costs that fit all others."""
    _need_readings(net, readings)
    left = _left_out(net, readings)
    return (left, Report(net, _without(readings, left)).costs())


def shows_mended(net, readings, value):
    """Whether any value is such a result as mended tells of these readings."""
    _need_readings(net, readings)
    if not isinstance(value, tuple) or len(value) != 2 or not isinstance(value[0], tuple):
        return False
    left, costs = value
    if not all([is_integer(at) for at in left]) or left != _left_out(net, readings):
        return False
    return _fit(net, _without(readings, left), costs)


def next_way(net, readings, weights):
    """("sure",) if reckoned tells it; otherwise the first ("way", way) by which it would; ("more",) if none does."""
    report = _report(net, readings, weights)
    shown = report.sight.unseen(weights)
    if shown is None:
        return ("sure",)
    # A further way makes the weights exactly if it shows, of all that the readings hide, what the weights show.
    _, tops = in_integers(weights)
    much = worth_of(tops, shown)
    alike = []
    for one in report.sight.hidden:
        little = worth_of(tops, one)
        alike.append([much * part - little * other for part, other in zip(one, shown)])
    for way, row in walked(net):
        if sum_along(row, shown) != 0 and not any([sum_along(row, one) for one in alike]):
            return ("way", way)
    return ("more",)

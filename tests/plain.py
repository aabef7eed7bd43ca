"""What the document says of nets, ways, what is told and parts, reckoned by the tests themselves: plainly, slowly."""

import functools
import itertools
import math
import random
from fractions import Fraction

from tiesums.nets import Net

NAMES = ("m", "za", "b", "y", "c", "aa", "x", "d")


def text_of(places, watchers, ties):
    rows = [["places", *places], ["watchers", *watchers]] + [["tie", *tie] for tie in ties]
    return "\n".join(" ".join(row) for row in rows)


def net_of(places, watchers, ties):
    """The net of these; places may be a string of names of one letter, ties a string of pairs of such."""
    if isinstance(ties, str):
        ties = [tuple(pair) for pair in ties.split()]
    return Net(text_of(places, watchers, ties))


def lots_of(places, least=0):
    """All lots of places, from so many places on."""
    return [lot for size in range(least, len(places) + 1) for lot in itertools.combinations(places, size)]


def all_nets(size):
    """All nets of so many places, with all their watchers, ties in one sequence."""
    places = NAMES[:size]
    pairs = tuple(itertools.combinations(places, 2))
    for ties in lots_of(pairs, 1):
        for watchers in lots_of(places, 2):
            yield net_of(places, watchers, ties)


def drawn_net(draw, size, many, watching):
    """A net of so many places, ties and watchers, ties in any sequence."""
    names = list(NAMES)
    draw.shuffle(names)
    places = tuple(names[:size])
    ties = draw.sample(list(itertools.combinations(places, 2)), many)
    watchers = set(draw.sample(places, watching))
    return net_of(places, [place for place in places if place in watchers], ties)


def drawn_nets(seed, count, least=3, most=8):
    """So many nets of least to most places, with any number of ties and watchers."""
    draw = random.Random(seed)
    for _ in range(count):
        size = draw.randint(least, most)
        many = min(14, size * (size - 1) // 2)
        yield drawn_net(draw, size, draw.choice([many, draw.randint(1, many)]), draw.randint(2, size))


@functools.lru_cache(maxsize=None)
def _plain_ways(text):
    net = Net(text)
    tied = {frozenset(tie) for tie in net.ties}
    found = []
    for size in range(2, len(net.places) + 1):
        for row in itertools.permutations(net.places, size):
            if row[0] in net.watchers and row[-1] in net.watchers:
                ahead = net.places.index(row[0]) < net.places.index(row[-1])
                if ahead and all(frozenset(step) in tied for step in zip(row, row[1:])):
                    found.append(row)
    return tuple(sorted(found))


def plain_ways(net):
    """The ways, found among all rows of places."""
    return _plain_ways(net.text)


def plain_row(net, way):
    """For each tie 1 if the way goes along it, otherwise 0."""
    steps = [set(step) for step in zip(way, way[1:])]
    return [1 if set(tie) in steps else 0 for tie in net.ties]


def plain_rows(net):
    return [plain_row(net, way) for way in plain_ways(net)]


def number_of(fraction):
    return Fraction(*fraction)


def pair_of(number):
    number = Fraction(number)
    return (number.numerator, number.denominator)


def costs_of(*numbers):
    """Costs, or weights, of these numbers, which may be strings as 1/2."""
    return tuple(pair_of(number) for number in numbers)


def dot(row, fractions):
    return sum([one * number_of(other) for one, other in zip(row, fractions, strict=True)], start=Fraction(0))


def worth(costs, weights):
    return dot([number_of(one) for one in weights], costs)


def plain_sums(net, costs):
    return [dot(row, costs) for row in plain_rows(net)]


def cleared(row, found):
    """A row of integers, cleared of what an echelon makes."""
    for at, other in found:
        if row[at]:
            row = [one * other[at] - row[at] * two for one, two in zip(row, other)]
    divisor = math.gcd(*row)
    return [one // divisor for one in row] if divisor else row


def echelon(rows):
    """(where it begins, row) for rows of integers, each 0 where one ahead of it begins, that make the same as these."""
    found = []
    for row in rows:
        left = cleared(row, found)
        if any(left):
            found.append((next(at for at, one in enumerate(left) if one), left))
    return found


def rank(rows):
    return len(echelon(rows))


@functools.lru_cache(maxsize=None)
def _echelon_of(text):
    return echelon(plain_rows(Net(text)))


def plain_rank(net):
    """How many ways are needed to make what all ways make."""
    return len(_echelon_of(net.text))


def is_made(net, weights):
    """Whether some signed ways make the weights."""
    much = math.lcm(*[low for top, low in weights])
    return not any(cleared([top * much // low for top, low in weights], _echelon_of(net.text)))


def unit(net, number):
    return tuple((1, 1) if at == number else (0, 1) for at in range(len(net.ties)))


def plain_sure(net):
    return tuple(number for number in range(len(net.ties)) if is_made(net, unit(net, number)))


def made(net, signed):
    """What signed ways make, tie by tie."""
    found = [Fraction(0)] * len(net.ties)
    for way, number in signed:
        found = [one + other * number_of(number) for one, other in zip(found, plain_row(net, way))]
    return tuple(pair_of(one) for one in found)


def hidden(net):
    """Rows of numbers, as many as can be without one being made of others, by which all ways come to 0."""
    return free_rows([row for at, row in _echelon_of(net.text)], len(net.ties))


@functools.lru_cache(maxsize=None)
def _dependences(text):
    net = Net(text)
    kept, found = [], []
    for way in plain_ways(net):
        left, used = [Fraction(one) for one in plain_row(net, way)], {way: Fraction(1)}
        for at, other, ways in kept:
            if left[at]:
                times = left[at] / other[at]
                left = [one - times * two for one, two in zip(left, other)]
                for one, number in ways.items():
                    used[one] = used.get(one, Fraction(0)) - times * number
        if any(left):
            kept.append((next(at for at, one in enumerate(left) if one), left, used))
        else:
            found.append(used)
            if len(found) == 20:
                break
    return found


def dependences(net):
    """Up to twenty signed ways, as dicts, that make nothing, each with a way that those ahead of it make."""
    return _dependences(net.text)


def signed_of(numbers):
    """The signed ways with these numbers, a dict."""
    return tuple((way, pair_of(number)) for way, number in sorted(numbers.items()) if number)


def joined(*signed):
    """Signed ways, given as dicts or as tuples, put together."""
    found = {}
    for one in signed:
        for way, number in (one.items() if isinstance(one, dict) else one):
            found[way] = found.get(way, Fraction(0)) + (Fraction(*number) if isinstance(number, tuple) else number)
    return signed_of(found)


def plain_edge(net, lot):
    found = {one for one, other in net.ties if other in lot} | {other for one, other in net.ties if one in lot}
    return tuple(place for place in net.places if place in found - set(lot))


def plain_hangs(net, lot):
    groups = [{place} for place in lot]
    for tie in net.ties:
        if set(tie) <= set(lot):
            met = [group for group in groups if group & set(tie)]
            groups = [group for group in groups if not group & set(tie)] + [set().union(*met)]
    return len(groups) == 1


def plain_parts(net):
    return _plain_parts(net.text)


@functools.lru_cache(maxsize=None)
def _plain_parts(text):
    net = Net(text)
    met = {place for tie in net.ties for place in tie}
    return tuple(sorted(lot for lot in lots_of(net.places, 1)
                        if plain_hangs(net, lot) and set(lot) & met and len(plain_edge(net, lot)) <= 2))


def plain_blind(net):
    return tuple(lot for lot in plain_parts(net) if not set(lot) & set(net.watchers))


def watched_by(net, lot):
    """The net in which just these places watch."""
    return net_of(net.places, lot, net.ties)


def in_whole_numbers(row):
    """The row of numbers, all so many times greater that they are integers."""
    numbers = [Fraction(one) for one in row]
    much = math.lcm(*[one.denominator for one in numbers])
    return [int(one * much) for one in numbers]


def is_made_of(rows, row):
    """Whether the row of numbers is made of these rows."""
    rows = [in_whole_numbers(one) for one in rows]
    return rank(rows + [in_whole_numbers(row)]) == rank(rows)


def numbers_of(fractions):
    return [number_of(one) for one in fractions]


def made_by(rows, numbers):
    """What the rows make with these fractions, tie by tie, as numbers."""
    found = [Fraction(0)] * len(rows[0]) if rows else []
    for row, number in zip(rows, numbers, strict=True):
        found = [one + other * number_of(number) for one, other in zip(found, row)]
    return found


def reading_rows(net, readings):
    return [plain_row(net, way) for way, amount in readings]


def some_fit(net, readings):
    """Whether some costs fit the readings."""
    rows = reading_rows(net, readings)
    return rank(rows) == rank([row + [amount] for row, (way, amount) in zip(rows, readings)])


def fits(net, readings, costs):
    """Whether the costs, fractions, fit the readings."""
    return all(dot(plain_row(net, way), costs) == amount for way, amount in readings)


def tears(net, readings, numbers):
    """Whether these numbers of the readings show that no costs fit."""
    comes_to = sum([amount * number_of(number) for (way, amount), number in zip(readings, numbers, strict=True)])
    return not any(made_by(reading_rows(net, readings), numbers)) and comes_to != 0


def drawn_readings(draw, net, many, wrong=0):
    """So many readings of drawn costs, ways perhaps several times, so many of their sums changed."""
    costs = [draw.randint(-9, 9) for _ in net.ties]
    found = []
    for way in [draw.choice(plain_ways(net)) for _ in range(many)]:
        found.append((way, sum(one * cost for one, cost in zip(plain_row(net, way), costs))))
    for at in draw.sample(range(many), wrong):
        found[at] = (found[at][0], found[at][1] + draw.choice([-1, 1, 10 ** 8]))
    return tuple(found)


def free_rows(rows, many):
    """Rows of numbers, as many as can be without one being made of others, by which all these rows come to 0."""
    # Cleared from the last one on, each row is 0 wherever another one begins.
    cleared_rows = []
    for at, row in reversed(echelon(rows)):
        cleared_rows.append((at, cleared(row, cleared_rows)))
    begins = [at for at, row in cleared_rows]
    found = []
    for free in [at for at in range(many) if at not in begins]:
        new = [Fraction(0)] * many
        new[free] = Fraction(1)
        for at, row in cleared_rows:
            new[at] = Fraction(-row[free], row[at])
        found.append(new)
    return found

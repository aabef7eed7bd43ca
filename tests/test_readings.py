"""Point 11: what fitting, reckoned, mended and next_way tell, held against what the tests reckon by themselves."""

import itertools
import random
import time
import unittest
from fractions import Fraction

from plain import (cleared, drawn_nets, drawn_readings, echelon, fits, in_whole_numbers, is_made_of, made_by, net_of,
                   number_of, numbers_of, pair_of, plain_row, plain_ways, rank, reading_rows, some_fit, tears, unit,
                   worth)
from samples import APART, BOUNDS, FIVE, HOUSE, NETS, RING, STAR, Checks, raised
from tiesums.errors import BadReadings, BadWeights, Torn
from tiesums.nets import Net
from tiesums.readings import (fitting, mended, next_way, reckoned, shows_fitting, shows_mended, shows_reckoned)
from tiesums.ways import ways

HOUSE_NET, STAR_NET = Net(HOUSE), Net(STAR)
AM, BM, CM = [unit(STAR_NET, number) for number in range(3)]
AB, AC, BC = ways(STAR_NET)
NO_WAYS = net_of("abc", "ac", "ab")


def some_nets(seed, count=25):
    return [STAR_NET, HOUSE_NET, RING, APART, FIVE, *[net for net in drawn_nets(seed, count, most=6) if plain_ways(net)]]


def drawn_weights(draw, net, readings):
    """Weights of a tie, of none, of a way, of a sum of ways, of what readings make, and others."""
    many, rows = len(net.ties), [plain_row(net, way) for way in plain_ways(net)]
    read = reading_rows(net, readings) or rows[:1]
    found = [unit(net, draw.randrange(many)), ((0, 1),) * many, tuple((one, 1) for one in draw.choice(rows))]
    found.append(tuple(pair_of(sum(some)) for some in zip(*[draw.choice(rows) for _ in range(3)])))
    times = [Fraction(draw.randint(-5, 5), draw.randint(1, 4)) for _ in read]
    found.append(tuple(pair_of(sum(time * row[at] for time, row in zip(times, read))) for at in range(many)))
    found.append(tuple(pair_of(f"{draw.randint(-3, 3)}/{draw.randint(1, 3)}") for _ in range(many)))
    return found


class Results(Checks):

    def check_fractions(self, value, many):
        self.check((type(value), len(value)), (tuple, many))
        for one in value:
            self.check(one, pair_of(number_of(one)))

    def check_costs(self, net, readings, costs):
        self.check_fractions(costs, len(net.ties))
        self.assertTrue(fits(net, readings, costs))

    def check_torn(self, net, readings, numbers):
        self.check_fractions(numbers, len(readings))
        self.assertTrue(tears(net, readings, numbers))

    def check_fitting(self, net, readings):
        value = fitting(net, readings)
        self.check((type(value), len(value)), (tuple, 2))
        if some_fit(net, readings):
            self.assertEqual(value[0], "costs")
            self.check_costs(net, readings, value[1])
        else:
            self.assertEqual(value[0], "torn")
            self.check_torn(net, readings, value[1])
        self.check_right(shows_fitting, net, readings, value)

    def check_reckoned(self, net, readings, weights):
        if not some_fit(net, readings):
            for call in ((reckoned, net, readings, weights), (shows_reckoned, net, readings, weights, None),
                         (next_way, net, readings, weights)):
                self.check_torn(net, readings, raised(Torn, *call))
            return
        value = reckoned(net, readings, weights)
        self.check((type(value), len(value)), (tuple, 3))
        if is_made_of(reading_rows(net, readings), numbers_of(weights)):
            self.assertEqual(value[0], "sure")
            self.check_fractions(value[1:2], 1)
            self.check_fractions(value[2], len(readings))
            wanted = numbers_of(weights) if readings else []
            self.assertEqual(made_by(reading_rows(net, readings), value[2]), wanted)
            self.assertEqual(number_of(value[1]), worth(fitting(net, readings)[1], weights))
        else:
            self.assertEqual(value[0], "open")
            self.check_costs(net, readings, value[1])
            self.check_costs(net, readings, value[2])
            self.assertNotEqual(worth(value[1], weights), worth(value[2], weights))
        self.check_right(shows_reckoned, net, readings, weights, value)


class Fitting(Results):

    def test_drawn_readings(self):
        draw = random.Random("fitting")
        for net in some_nets("fitting", 40):
            for many in (0, 1, 2, 3, 6, 10):
                for wrong in {0, min(1, many), min(3, many)}:
                    self.check_fitting(net, drawn_readings(draw, net, many, wrong))

    def test_none(self):
        for net in [*NETS, NO_WAYS]:
            self.check_fitting(net, ())
            self.check(fitting(net, ())[0], "costs")

    def test_one(self):
        for net in (STAR_NET, HOUSE_NET, RING):
            for way in ways(net):
                for amount in (0, 1, -1, 7, 123456789, -999999999, 10 ** 12 - 1):
                    self.check(fitting(net, ((way, amount),))[0], "costs")
                    self.check_fitting(net, ((way, amount),))

    def test_the_same_way_several_times(self):
        for many in range(2, 11):
            self.check(fitting(STAR_NET, ((AB, 4),) * many)[0], "costs")
            self.check_fitting(STAR_NET, ((AB, 4),) * many)
            self.check_fitting(STAR_NET, ((AB, 4),) * (many - 1) + ((AB, 5),))
            self.check(fitting(STAR_NET, ((AB, 4),) * (many - 1) + ((AB, 5),))[0], "torn")
            self.check_fitting(STAR_NET, ((AB, 0),) + ((AB, 4),) * (many - 1))

    def test_sums_of_nine_figures(self):
        read = ((AB, 987654321), (AC, -123456789), (BC, 0), (AB, 987654321))
        self.check_fitting(STAR_NET, read)
        self.check(fitting(STAR_NET, read)[0], "costs")
        self.check_fitting(STAR_NET, read[:3] + ((AB, 987654320),))

    def test_ways_that_are_made_of_others(self):
        # Round the ring: (a, b, c) and (c, d, e) come to (a, b, c, d, e) together.
        read = ((("a", "b", "c"), 3), (("c", "d", "e"), 4), (("a", "b", "c", "d", "e"), 7))
        self.check(fitting(RING, read)[0], "costs")
        self.check(fitting(RING, read[:2] + ((read[2][0], 8),))[0], "torn")
        for some in itertools.permutations(read[:2] + ((read[2][0], 8),)):
            self.check_fitting(RING, some)

    def test_costs_that_are_no_integers(self):
        self.check(fitting(STAR_NET, ((AB, 1), (AC, 1), (BC, 1))), ("costs", ((1, 2),) * 3))
        self.check(fitting(STAR_NET, ((AB, 0), (AC, -1), (BC, 0)))[1], ((-1, 2), (1, 2), (-1, 2)))

    def test_what_tears_may_stand_first_or_last(self):
        draw = random.Random("torn")
        for net in (STAR_NET, HOUSE_NET, FIVE):
            right = drawn_readings(draw, net, 9)
            way, amount = right[0]
            for at in range(10):
                self.check_fitting(net, right[:at] + ((way, amount + 1),) + right[at:])


class Reckoned(Results):

    def test_drawn_readings(self):
        draw = random.Random("reckoned")
        for net in some_nets("reckoned", 30):
            for many in (0, 1, 3, 6, 10):
                for wrong in {0, min(1, many)}:
                    readings = drawn_readings(draw, net, many, wrong)
                    for weights in drawn_weights(draw, net, readings):
                        self.check_reckoned(net, readings, weights)

    def test_sure(self):
        read = ((AB, 5), (AC, 6), (BC, 7))
        self.check(reckoned(STAR_NET, read, AM), ("sure", (2, 1), ((1, 2), (1, 2), (-1, 2))))
        self.check(reckoned(STAR_NET, read, ((1, 1),) * 3)[1], (9, 1))
        self.check(reckoned(STAR_NET, ((AB, 5), (AC, 6), (BC, 8)), AM)[1], (3, 2))
        self.check(reckoned(STAR_NET, ((AB, 5), (AC, -6), (BC, 8)), AM)[1], (-9, 2))
        self.check(reckoned(STAR_NET, ((AB, 5), (AC, 5), (BC, 10)), AM)[1], (0, 1))
        self.check(reckoned(STAR_NET, read, ((1, 3), (0, 1), (-1, 3)))[1], (-2, 3))

    def test_weights_of_nothing(self):
        zero = ((0, 1),) * 3
        for read in ((), ((AB, 5),), ((AB, 5), (AC, 6)), ((AB, 5),) * 10):
            self.check(reckoned(STAR_NET, read, zero)[:2], ("sure", (0, 1)))
            self.check_reckoned(STAR_NET, read, zero)
        self.check(reckoned(NO_WAYS, (), ((0, 1),)), ("sure", (0, 1), ()))
        self.check(reckoned(NO_WAYS, (), ((1, 1),))[0], "open")

    def test_open(self):
        for weights in (AM, BM, CM, ((1, 1), (1, 1), (1, 1)), ((1, 1), (-1, 1), (1, 1))):
            self.check(reckoned(STAR_NET, ((AB, 5), (AC, 6)), weights)[0], "open")
            self.check_reckoned(STAR_NET, ((AB, 5), (AC, 6)), weights)
        self.check(reckoned(STAR_NET, ((AB, 5), (AC, 6)), ((0, 1), (1, 1), (-1, 1)))[:2], ("sure", (-1, 1)))

    def test_a_way_that_was_read(self):
        for net in some_nets("read", 10):
            way = ways(net)[-1]
            weights = tuple((one, 1) for one in plain_row(net, way))
            self.check(reckoned(net, ((way, 41),), weights)[:2], ("sure", (41, 1)))
            self.check(reckoned(net, (), weights)[0], "open")

    def test_great_weights(self):
        read = ((AB, 987654321), (AC, -123456789), (BC, 1))
        for top, low in ((10 ** 40 + 1, 10 ** 20), (-7 ** 30, 3 ** 30), (1, 10 ** 40)):
            weights = ((top, low), (1, 7), (low, top) if top > 0 else (0, 1))
            weights = tuple(pair_of(number_of(one)) for one in weights)
            self.check_reckoned(STAR_NET, read, weights)
            self.check_reckoned(STAR_NET, read[:2], weights)

    def test_what_was_told_is_handed_in_again(self):
        read = ((AB, 5), (AC, 6), (BC, 8))
        for weights in (fitting(STAR_NET, read)[1], reckoned(STAR_NET, read[:2], AM)[2], reckoned(STAR_NET, read, AM)[2]):
            self.check_reckoned(STAR_NET, read, weights)
            self.check_reckoned(STAR_NET, read[:2], weights)

    def test_errors_in_sequence(self):
        torn = ((AB, 5), (AB, 6))
        for call in ((reckoned,), (shows_reckoned, None), (next_way,)):
            tell, more = call[0], call[1:]
            self.check(raised(BadReadings, tell, STAR_NET, list(torn), None, *more), list(torn))
            self.check(raised(BadReadings, tell, STAR_NET, list(torn), AM, *more), list(torn))
            self.check(raised(BadWeights, tell, STAR_NET, torn, AM[1:], *more), AM[1:])
            self.check_torn(STAR_NET, torn, raised(Torn, tell, STAR_NET, torn, AM, *more))


def plain_mended(net, readings):
    for many in range(len(readings) + 1):
        for left in itertools.combinations(range(len(readings)), many):
            if some_fit(net, [one for at, one in enumerate(readings) if at not in left]):
                return left
    raise AssertionError("none fits none")


class Mended(Results):

    def check_mended(self, net, readings, left=None):
        value = mended(net, readings)
        self.check((type(value), len(value)), (tuple, 2))
        self.check(value[0], plain_mended(net, readings))
        if left is not None:
            self.check(value[0], left)
        self.check_costs(net, [one for at, one in enumerate(readings) if at not in value[0]], value[1])
        self.check_right(shows_mended, net, readings, value)

    def test_drawn_readings(self):
        draw = random.Random("mended")
        for net in some_nets("mended", 12):
            for many, wrong in ((0, 0), (1, 1), (3, 1), (5, 0), (5, 2), (7, 3), (10, 0), (10, 1), (10, 2)):
                self.check_mended(net, drawn_readings(draw, net, many, wrong))

    def test_readings_that_fit(self):
        self.check_mended(STAR_NET, (), ())
        self.check_mended(STAR_NET, ((AB, 5),), ())
        self.check_mended(STAR_NET, ((AB, 5), (AC, 6), (BC, 7)) * 3, ())
        self.check_mended(NO_WAYS, (), ())

    def test_wrong_ones_first_and_last(self):
        right = ((AB, 5), (AC, 6), (BC, 7)) * 2
        self.check_mended(STAR_NET, ((AB, 4),) + right, (0,))
        self.check_mended(STAR_NET, right + ((AB, 4),), (6,))
        self.check_mended(STAR_NET, ((AB, 4), (AC, 9)) + right, (0, 1))
        self.check_mended(STAR_NET, ((AB, 4),) + right + ((AC, 9),), (0, 7))
        self.check_mended(STAR_NET, right + ((AB, 4), (AC, 9)), (6, 7))
        self.check_mended(STAR_NET, ((AB, 4),) + right + ((AC, 9), (BC, 0)), (0, 7, 8))

    def test_the_first_of_several(self):
        self.check_mended(STAR_NET, ((AB, 5), (AB, 6)), (0,))
        self.check_mended(STAR_NET, ((AB, 5), (AB, 6), (AB, 5)), (1,))
        self.check_mended(STAR_NET, ((AB, 5), (AB, 6), (AB, 7)), (0, 1))
        self.check_mended(STAR_NET, ((AC, 1), (AB, 5), (AB, 6), (AC, 2)), (0, 1))
        self.check_mended(STAR_NET, tuple((AB, number) for number in range(10)), tuple(range(9)))
        self.check_mended(STAR_NET, tuple((AB, number // 2) for number in range(10)), tuple(range(8)))
        read = ((("a", "b", "c"), 3), (("c", "d", "e"), 4), (("a", "b", "c", "d", "e"), 8))
        for some in itertools.permutations(read):
            self.check_mended(RING, some, (0,))

    def test_few_ways_many_readings(self):
        draw = random.Random("few")
        for net in (STAR_NET, HOUSE_NET, RING):
            for _ in range(8):
                some = draw.sample(ways(net), 3)
                self.check_mended(net, tuple((draw.choice(some), draw.randint(0, 2)) for _ in range(9)))


def would_be_sure(net, readings, weights):
    """The ways by a reading of which, whatever its sum is, the weights would be sure."""
    read = echelon(reading_rows(net, readings))
    wanted = cleared(in_whole_numbers(numbers_of(weights)), read)
    found = []
    for way in plain_ways(net):
        row = cleared(plain_row(net, way), read)
        # If the way is made of the readings, a sum that they do not tell leaves no costs that fit.
        if any(row) and rank([row, wanted]) == 1:
            found.append(way)
    return found


class NextWay(Results):

    def check_next(self, net, readings, weights):
        value = next_way(net, readings, weights)
        if reckoned(net, readings, weights)[0] == "sure":
            self.check(value, ("sure",))
            return
        found = would_be_sure(net, readings, weights)
        self.check(value, ("way", found[0]) if found else ("more",))
        for amount in (0, -7, 10 ** 9):
            if found and len(readings) < 10:
                self.check(reckoned(net, readings + ((found[0], amount),), weights)[0], "sure")

    def test_drawn_readings(self):
        draw = random.Random("next")
        for net in some_nets("next", 25):
            for many in (0, 1, 2, 4, 7, 10):
                readings = drawn_readings(draw, net, many)
                for weights in drawn_weights(draw, net, readings):
                    self.check_next(net, readings, weights)

    def test_star(self):
        read = ((AB, 5), (AC, 6), (BC, 7))
        self.check(next_way(STAR_NET, read, AM), ("sure",))
        self.check(next_way(STAR_NET, read[:2], AM), ("way", BC))
        self.check(next_way(STAR_NET, read[1:], AM), ("way", AB))
        self.check(next_way(STAR_NET, read[:1], AM), ("more",))
        self.check(next_way(STAR_NET, (), ((1, 1), (1, 1), (0, 1))), ("way", AB))
        self.check(next_way(STAR_NET, (), ((0, 1), (-2, 7), (-2, 7))), ("way", BC))
        self.check(next_way(STAR_NET, (), ((0, 1),) * 3), ("sure",))
        self.check(next_way(STAR_NET, (), AM), ("more",))
        self.check(next_way(STAR_NET, read[:1], ((1, 1), (2, 1), (1, 1))), ("way", BC))
        self.check(next_way(STAR_NET, read[:1], ((2, 1), (1, 1), (1, 1))), ("way", AC))

    def test_ten_readings(self):
        # As if there was room for one more.
        self.check(next_way(STAR_NET, ((AB, 5), (AC, 6)) * 5, AM), ("way", BC))
        self.check(next_way(STAR_NET, ((AB, 5),) * 10, AM), ("more",))
        self.check(next_way(STAR_NET, ((AB, 5),) * 7 + ((AC, 6), (BC, 7), (BC, 7)), AM), ("sure",))

    def test_weights_that_no_ways_make(self):
        for read in ((), ((("a", "b"), 3),), ((("a", "p", "b"), 3), (("a", "b"), 3))):
            self.check(next_way(HOUSE_NET, read, unit(HOUSE_NET, 3)), ("more",))
        self.check(next_way(NO_WAYS, (), ((1, 1),)), ("more",))
        self.check(next_way(NO_WAYS, (), ((0, 1),)), ("sure",))

    def test_the_first_of_several(self):
        self.check(next_way(HOUSE_NET, (), unit(HOUSE_NET, 0)), ("way", ("a", "b")))
        # (a, p, b) was read, so any way that goes on from there, or comes to there, tells what is left of it.
        read = ((("a", "p", "b"), 4),)
        weights = tuple((one, 1) for one in plain_row(HOUSE_NET, ("b", "c")))
        self.check(next_way(HOUSE_NET, read, weights), ("way", ("a", "p", "b", "c")))


class Time(Results):

    def test_time(self):
        draw = random.Random("time")
        start = time.monotonic()
        for net in BOUNDS:
            some = ways(net)
            for kind in (some, some[:12], some[:2], some[:1]):
                readings = tuple((draw.choice(kind), draw.randint(-10 ** 9, 10 ** 9)) for _ in range(10))
                self.check_right(shows_fitting, net, readings, fitting(net, readings))
                value = mended(net, readings)
                self.check_right(shows_mended, net, readings, value)
                rest = tuple(one for at, one in enumerate(readings) if at not in value[0])
                for weights in drawn_weights(draw, net, rest):
                    self.check_right(shows_reckoned, net, rest, weights, reckoned(net, rest, weights))
                    next_way(net, rest, weights)
        self.assertLess(time.monotonic() - start, 10)


if __name__ == "__main__":
    unittest.main()

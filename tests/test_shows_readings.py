"""Point 11: shows_fitting, shows_reckoned and shows_mended take just what is right, and which arguments are refused."""

import copy
import itertools
import random
import unittest
from fractions import Fraction

from plain import (costs_of, drawn_nets, drawn_readings, fits, free_rows, in_whole_numbers, number_of, numbers_of,
                   pair_of, plain_row, plain_ways, reading_rows, some_fit, tears, unit, worth)
from samples import BOUNDS, FIVE, HOUSE, RING, STAR, Checks, any_values, no_costs, raised, same
from tiesums.errors import BadReadings, BadWeights, Torn
from tiesums.nets import Net
from tiesums.readings import (fitting, mended, next_way, reckoned, shows_fitting, shows_mended, shows_reckoned)
from tiesums.ways import ways

HOUSE_NET, STAR_NET = Net(HOUSE), Net(STAR)
AM, BM, CM = [unit(STAR_NET, number) for number in range(3)]
AB, AC, BC = ways(STAR_NET)
READ = ((AB, 5), (AC, 6), (BC, 7))
TORN = READ + ((AB, 6),)


def some_nets(seed, count=20):
    return [STAR_NET, HOUSE_NET, RING, FIVE, BOUNDS[1],
            *[net for net in drawn_nets(seed, count, most=6) if plain_ways(net)]]


def shifted(draw, net, readings):
    """Costs that fit as those told do: these, moved by drawn numbers of what the readings hide."""
    costs = numbers_of(fitting(net, readings)[1])
    for row in free_rows(reading_rows(net, readings), len(net.ties)):
        times = Fraction(draw.randint(-5, 5), draw.randint(1, 3))
        costs = [one + times * other for one, other in zip(costs, row)]
    return costs_of(*costs)


def dependences_of(rows):
    """Rows of numbers with which these rows make nothing."""
    turned = [list(column) for column in zip(*rows)]
    return free_rows([in_whole_numbers(row) for row in turned], len(rows)) if rows else []


class Fitting(Checks):

    def test_any_costs_that_fit(self):
        draw = random.Random("costs")
        for net in some_nets("costs"):
            for many in (0, 1, 4, 10):
                readings = drawn_readings(draw, net, many)
                for _ in range(3):
                    costs = shifted(draw, net, readings)
                    self.check_right(shows_fitting, net, readings, ("costs", costs))
                    at = draw.randrange(len(costs))
                    others = costs[:at] + (pair_of(number_of(costs[at]) + 1),) + costs[at + 1:]
                    self.assertIs(shows_fitting(net, readings, ("costs", others)), fits(net, readings, others))

    def test_any_numbers_that_tear(self):
        draw = random.Random("torn")
        for net in some_nets("torn"):
            for _ in range(6):
                readings = drawn_readings(draw, net, draw.randint(2, 10), 2)
                for row in dependences_of(reading_rows(net, readings)):
                    for times in (1, -2, Fraction(1, 3), 10 ** 30):
                        numbers = costs_of(*[one * times for one in row])
                        self.assertIs(shows_fitting(net, readings, ("torn", numbers)), tears(net, readings, numbers))
                numbers = costs_of(*[draw.randint(-1, 1) for _ in readings])
                self.assertIs(shows_fitting(net, readings, ("torn", numbers)), tears(net, readings, numbers))

    def test_just_one_is_right(self):
        draw = random.Random("one")
        for net in some_nets("one"):
            readings = drawn_readings(draw, net, 6, draw.randint(0, 1))
            kind, told = fitting(net, readings)
            self.assertEqual(kind == "costs", some_fit(net, readings))
            self.check_wrong(shows_fitting, net, readings, ("torn" if kind == "costs" else "costs", told))

    def test_costs_of_readings_of_which_none_fit(self):
        for costs in ((2, 3, 4), (3, 3, 4), ("5/2", "5/2", "7/2"), (0, 0, 0)):
            self.check_wrong(shows_fitting, STAR_NET, TORN, ("costs", costs_of(*costs)))
        self.check_right(shows_fitting, STAR_NET, TORN, ("torn", costs_of(1, 0, 0, -1)))
        self.check_right(shows_fitting, STAR_NET, TORN, ("torn", costs_of("-7/3", 0, 0, "7/3")))

    def test_numbers_that_do_not_tear(self):
        for numbers in ((1, 0, 0, 1), (0, 0, 0, 0), (1, 1, 0, -1), (1, -1, 0, 0), (0, 0, 1, -1), (1, 0, 0, "-1/2")):
            self.check_wrong(shows_fitting, STAR_NET, TORN, ("torn", costs_of(*numbers)))
        self.check_wrong(shows_fitting, STAR_NET, READ, ("torn", costs_of(0, 0, 0)))
        self.check_wrong(shows_fitting, STAR_NET, READ * 2, ("torn", costs_of(1, 0, 0, -1, 0, 0)))
        self.check_wrong(shows_fitting, STAR_NET, (), ("torn", ()))

    def test_longer_and_shorter(self):
        right = costs_of(1, 0, 0, -1)
        for numbers in (right[:3], right[1:], right + ((0, 1),), ((0, 1),) + right, right + right, right[:1]):
            self.check_wrong(shows_fitting, STAR_NET, TORN, ("torn", numbers))
        costs = costs_of(2, 3, 4)
        for some in (costs[:2], costs[1:], costs + ((0, 1),), ((0, 1),) + costs, costs + costs, ()):
            self.check_wrong(shows_fitting, STAR_NET, READ, ("costs", some))

    def test_another_form(self):
        self.check_spoiled(shows_fitting, STAR_NET, READ, ("costs", costs_of(2, 3, 4)))
        self.check_spoiled(shows_fitting, STAR_NET, TORN, ("torn", costs_of(1, 0, 0, -1)))
        self.check_spoiled(shows_fitting, STAR_NET, (), ("costs", costs_of("1/2", 0, -1)))

    def test_values_of_any_kind(self):
        for value in any_values():
            for shown in (value, ("costs", value), ("torn", value), (value, costs_of(2, 3, 4)), ("costs", (value,) * 3),
                          ("torn", (value,) * 3), ("costs", costs_of(2, 3) + (value,)), (value,), (value, value, value)):
                self.check_wrong(shows_fitting, STAR_NET, READ, shown)
                self.check_wrong(shows_fitting, STAR_NET, TORN, shown)

    def test_great_ones(self):
        big = 10 ** 60
        self.check_right(shows_fitting, STAR_NET, ((AB, 5),), ("costs", costs_of(big, 5 - big, f"1/{big}")))
        self.check_wrong(shows_fitting, STAR_NET, ((AB, 5),), ("costs", costs_of(big, 6 - big, f"1/{big}")))


class Reckoned(Checks):

    def test_other_numbers(self):
        draw = random.Random("numbers")
        for net in some_nets("numbers"):
            for _ in range(4):
                readings = drawn_readings(draw, net, 8)
                weights = tuple((one, 1) for one in plain_row(net, readings[3][0]))
                value = reckoned(net, readings, weights)
                for row in dependences_of(reading_rows(net, readings)):
                    numbers = costs_of(*[number_of(one) + 3 * other for one, other in zip(value[2], row)])
                    self.check_right(shows_reckoned, net, readings, weights, ("sure", value[1], numbers))
                for at in range(8):
                    numbers = value[2][:at] + (pair_of(number_of(value[2][at]) + 1),) + value[2][at + 1:]
                    self.check_wrong(shows_reckoned, net, readings, weights, ("sure", value[1], numbers))
                by_itself = costs_of(*[1 if at == 3 else 0 for at in range(8)])
                self.check_right(shows_reckoned, net, readings, weights, ("sure", value[1], by_itself))

    def test_another_worth(self):
        numbers = ((1, 2), (1, 2), (-1, 2))
        for one in ((2, 1), (1, 1), (3, 1), (-2, 1), (0, 1), (4, 2), (1, 2), 2, "2", "2/1", [2, 1], (2,), (2, 1, 1), (2, True)):
            self.assertIs(shows_reckoned(STAR_NET, READ, AM, ("sure", one, numbers)), one == (2, 1) and one[1] is not True)
        self.check_wrong(shows_reckoned, STAR_NET, READ, BM, ("sure", (2, 1), numbers))
        self.check_right(shows_reckoned, STAR_NET, READ, BM, ("sure", (3, 1), costs_of("1/2", "-1/2", "1/2")))

    def test_worths_of_bools(self):
        zero = costs_of(0, 0, 0)
        for one in ((False, 1), (0, True), (False, True), False, 0, (0, 1)):
            self.assertIs(shows_reckoned(STAR_NET, READ, zero, ("sure", one, zero)), same(one, (0, 1)))
        for numbers in (((False, 1), (0, 1), (0, 1)), ((0, True),) + zero[1:], [zero[0]] * 3, (0, 0, 0)):
            self.check_wrong(shows_reckoned, STAR_NET, READ, zero, ("sure", (0, 1), numbers))

    def test_any_two_costs(self):
        draw = random.Random("open")
        for net in some_nets("open"):
            for many in (0, 1, 3, 6):
                readings = drawn_readings(draw, net, many)
                for weights in (unit(net, 0), tuple(pair_of(draw.randint(-2, 2)) for _ in net.ties)):
                    for _ in range(3):
                        costs, others = shifted(draw, net, readings), shifted(draw, net, readings)
                        right = worth(costs, weights) != worth(others, weights)
                        self.assertIs(shows_reckoned(net, readings, weights, ("open", costs, others)), right)
                        at = draw.randrange(len(costs))
                        moved = costs[:at] + (pair_of(number_of(costs[at]) + 2),) + costs[at + 1:]
                        right = fits(net, readings, moved) and worth(moved, weights) != worth(others, weights)
                        self.assertIs(shows_reckoned(net, readings, weights, ("open", moved, others)), right)
                        self.assertIs(shows_reckoned(net, readings, weights, ("open", others, moved)), right)

    def test_costs_that_are_alike_or_exchanged(self):
        one, other = costs_of(2, 3, 4), costs_of(3, 2, 3)
        self.check_right(shows_reckoned, STAR_NET, READ[:2], AM, ("open", one, other))
        self.check_right(shows_reckoned, STAR_NET, READ[:2], AM, ("open", other, one))
        self.check_wrong(shows_reckoned, STAR_NET, READ[:2], AM, ("open", one, one))
        self.check_wrong(shows_reckoned, STAR_NET, READ[:2], AM, ("open", other, other))
        self.check_wrong(shows_reckoned, STAR_NET, READ[:2], costs_of(1, 1, 0), ("open", one, other))
        self.check_wrong(shows_reckoned, STAR_NET, READ, AM, ("open", one, other))
        self.check_wrong(shows_reckoned, STAR_NET, READ, AM, ("open", one, one))

    def test_words(self):
        sure, opened = (2, 1), (costs_of(2, 3, 4), costs_of(3, 2, 3))
        for word in ("sure", "open", "told", "alike", "", "SURE", None, True, 0, ("sure",), ["open"]):
            self.assertIs(shows_reckoned(STAR_NET, READ, AM, (word, sure, ((1, 2), (1, 2), (-1, 2)))), word == "sure")
            self.assertIs(shows_reckoned(STAR_NET, READ[:2], AM, (word, *opened)), word == "open")
            self.check_wrong(shows_reckoned, STAR_NET, READ[:2], AM, (word, opened))
            self.check_wrong(shows_reckoned, STAR_NET, READ[:2], AM, (word, *opened, opened[0]))

    def test_another_form(self):
        self.check_spoiled(shows_reckoned, STAR_NET, READ, AM, ("sure", (2, 1), ((1, 2), (1, 2), (-1, 2))))
        self.check_spoiled(shows_reckoned, STAR_NET, READ[:2], AM, ("open", costs_of(2, 3, 4), costs_of(3, 2, 3)))
        self.check_spoiled(shows_reckoned, STAR_NET, (), costs_of(0, 0, 0), ("sure", (0, 1), ()))

    def test_longer_and_shorter(self):
        numbers = ((1, 2), (1, 2), (-1, 2))
        for some in (numbers[:2], numbers[1:], numbers + ((0, 1),), ((0, 1),) + numbers, ()):
            self.check_wrong(shows_reckoned, STAR_NET, READ, AM, ("sure", (2, 1), some))
        self.check_right(shows_reckoned, STAR_NET, READ + READ[:1], AM, ("sure", (2, 1), numbers + ((0, 1),)))
        self.check_right(shows_reckoned, STAR_NET, READ + READ[:1], AM, ("sure", (2, 1), ((0, 1),) + numbers[1:] + ((1, 2),)))
        self.check_wrong(shows_reckoned, STAR_NET, READ + READ[:1], AM, ("sure", (2, 1), numbers + ((1, 2),)))

    def test_values_of_any_kind(self):
        for value in any_values():
            for shown in (value, ("sure", value, costs_of(0, 0, 0)), ("sure", (2, 1), value), ("open", value, value), (value,),
                          ("sure", (2, 1), (value,) * 3), ("open", costs_of(2, 3, 4), value), (value, value, value),
                          ("open", (value,) * 3, costs_of(2, 3, 4))):
                self.check_wrong(shows_reckoned, STAR_NET, READ, AM, shown)
                self.check_wrong(shows_reckoned, STAR_NET, READ[:2], AM, shown)

    def test_torn_whatever_is_to_be_shown(self):
        for value in [*any_values(), ("sure", (2, 1), costs_of(0, 0, 0, 0)), ("open", costs_of(2, 3, 4), costs_of(1, 1, 1))]:
            numbers = raised(Torn, shows_reckoned, STAR_NET, TORN, AM, value)
            self.assertTrue(tears(STAR_NET, TORN, numbers))
            self.check_right(shows_fitting, STAR_NET, TORN, ("torn", numbers))


class Mended(Checks):

    def test_any_costs_that_fit_the_others(self):
        draw = random.Random("mended")
        for net in some_nets("mended", 10):
            readings = drawn_readings(draw, net, 7, 2)
            left = mended(net, readings)[0]
            rest = tuple(one for at, one in enumerate(readings) if at not in left)
            for _ in range(4):
                costs = shifted(draw, net, rest)
                self.check_right(shows_mended, net, readings, (left, costs))
                at = draw.randrange(len(costs))
                moved = costs[:at] + (pair_of(number_of(costs[at]) + 1),) + costs[at + 1:]
                self.assertIs(shows_mended(net, readings, (left, moved)), fits(net, rest, moved))

    def test_which_are_left_out(self):
        costs = [costs_of(2, 3, 4), costs_of("5/2", "7/2", "7/2"), costs_of(0, 6, 6)]
        for many in range(5):
            for left in itertools.permutations(range(4), many):
                for one in costs:
                    rest = [reading for at, reading in enumerate(TORN) if at not in left]
                    right = left == (0,) and fits(STAR_NET, rest, one)
                    self.assertIs(shows_mended(STAR_NET, TORN, (left, one)), right)
        self.check_right(shows_mended, STAR_NET, TORN, ((0,), costs_of("5/2", "7/2", "7/2")))
        self.check_wrong(shows_mended, STAR_NET, TORN, ((3,), costs_of(2, 3, 4)))
        self.check_wrong(shows_mended, STAR_NET, READ, ((0,), costs_of(2, 3, 4)))
        self.check_right(shows_mended, STAR_NET, READ, ((), costs_of(2, 3, 4)))

    def test_numbers_of_another_kind(self):
        costs = costs_of("5/2", "7/2", "7/2")
        for left in ((False,), [0], (0, 0), 0, "0", (None,), ("0",), ((0, 1),), (4,), (-4,), ((0,),), {0: 1}, None):
            self.check_wrong(shows_mended, STAR_NET, TORN, (left, costs))
        some = ((AB, 4), (AC, 9)) + READ * 2
        self.check_right(shows_mended, STAR_NET, some, ((0, 1), costs_of(2, 3, 4)))
        for left in ((0, True), (False, 1), (1, 0), [0, 1], (0, 1, 1), (0,), (1,)):
            self.check_wrong(shows_mended, STAR_NET, some, (left, costs_of(2, 3, 4)))

    def test_another_form(self):
        self.check_spoiled(shows_mended, STAR_NET, TORN, ((0,), costs_of("5/2", "7/2", "7/2")))
        self.check_spoiled(shows_mended, STAR_NET, READ, ((), costs_of(2, 3, 4)))
        self.check_spoiled(shows_mended, STAR_NET, ((AB, 4), (AC, 9)) + READ * 2, ((0, 1), costs_of(2, 3, 4)))

    def test_values_of_any_kind(self):
        for value in any_values():
            for shown in (value, (value, costs_of(2, 3, 4)), ((0,), value), ((value,), costs_of(2, 3, 4)), (value, value),
                          ((0,), (value,) * 3), (value,), (value, value, value)):
                if not same(value, ()):
                    self.check_wrong(shows_mended, STAR_NET, READ, shown)
                self.check_wrong(shows_mended, STAR_NET, TORN, shown)


def no_readings(net):
    """Values that are no readings of the net."""
    found = [value for value in any_values() if not same(value, ())]
    rows = tuple((way, at) for at, way in enumerate(ways(net)))[:4]
    found += [list(rows), dict(rows), rows[0], (rows,), [rows], rows + (None,), (0,) + rows, rows + ((),), rows + (rows,)]
    found += [rows[:1] * 11, rows[:1] * 12, rows + rows[:1] * (11 - len(rows)), rows[:1] * 20]
    for at, (way, amount) in enumerate(rows):
        for wrong in (True, False, None, "1", (1, 1), (5, 1), [], (), {}, [1], STAR_NET):
            found.append(rows[:at] + ((way, wrong),) + rows[at + 1:])
        for wrong in (way[::-1], list(way), "".join(way), way[:1], way + way[:1], (), None, 0, True, (way,), way + ("x",),
                      way[:-1] + ("",), (0,) + way[1:], ([],) + way[1:]):
            found.append(rows[:at] + ((wrong, amount),) + rows[at + 1:])
        for wrong in ((way,), (way, amount, amount), (amount, way), [way, amount], (*way, amount), way, amount, None, ()):
            found.append(rows[:at] + (wrong,) + rows[at + 1:])
    return found


class WrongArguments(Checks):

    def test_no_readings(self):
        for net in (STAR_NET, HOUSE_NET, RING):
            weights = unit(net, 0)
            right = fitting(net, ())
            for value in no_readings(net):
                for tell, more in ((fitting, ()), (mended, ()), (reckoned, (weights,)), (next_way, (weights,)),
                                   (shows_fitting, (right,)), (shows_mended, (right,)), (shows_reckoned, (weights, right))):
                    self.assertIs(raised(BadReadings, tell, net, value, *more), value)

    def test_ways_of_another_net(self):
        for value in (((("a", "b"), 3),), ((AB, 1), (("a", "m"), 2))):
            self.assertIs(raised(BadReadings, fitting, STAR_NET, value), value)
        self.check(fitting(STAR_NET.with_watcher("m"), ((AB, 1), (("a", "m"), 2)))[0], "costs")

    def test_ten_are_readings(self):
        self.check(fitting(STAR_NET, READ[:1] * 10)[0], "costs")
        self.check(mended(STAR_NET, READ * 3 + READ[:1])[0], ())

    def test_whatever_is_to_be_shown(self):
        bad = ((AB, True),)
        for value in any_values():
            self.assertIs(raised(BadReadings, shows_fitting, STAR_NET, bad, value), bad)
            self.assertIs(raised(BadReadings, shows_mended, STAR_NET, bad, value), bad)
            self.assertIs(raised(BadReadings, shows_reckoned, STAR_NET, bad, value, value), bad)

    def test_no_weights(self):
        for net in (STAR_NET, HOUSE_NET):
            readings = ((ways(net)[0], 1), (ways(net)[0], 2))
            for value in no_costs(net):
                for some in ((), readings[:1], readings):
                    self.assertIs(raised(BadWeights, reckoned, net, some, value), value)
                    self.assertIs(raised(BadWeights, shows_reckoned, net, some, value, None), value)
                    self.assertIs(raised(BadWeights, next_way, net, some, value), value)

    def test_both(self):
        for value in no_readings(STAR_NET):
            for weights in (None, AM[:2], True):
                self.assertIs(raised(BadReadings, reckoned, STAR_NET, value, weights), value)
                self.assertIs(raised(BadReadings, shows_reckoned, STAR_NET, value, weights, None), value)
                self.assertIs(raised(BadReadings, next_way, STAR_NET, value, weights), value)

    def test_what_is_handed_in_stays(self):
        for value in ([[AB, 5]], {"a": [1]}, ([list(AB), 5],), (["costs", [[1, 1]]],)):
            before = copy.deepcopy(value)
            raised(BadReadings, mended, STAR_NET, value)
            raised(BadWeights, next_way, STAR_NET, READ, value)
            for shown in (shows_fitting(STAR_NET, READ, value), shows_mended(STAR_NET, READ, value),
                          shows_reckoned(STAR_NET, READ, AM, value)):
                self.assertIs(shown, False)
            self.check(value, before)
        self.check((STAR_NET.text, STAR_NET.ties), (STAR, Net(STAR).ties))


class Calls(Checks):

    def test_by_names(self):
        net = STAR_NET
        self.check(fitting(readings=READ, net=net), fitting(net, READ))
        self.check(mended(readings=TORN, net=net), mended(net, TORN))
        self.check(reckoned(weights=AM, readings=READ, net=net), reckoned(net, READ, AM))
        self.check(next_way(net, weights=AM, readings=READ[:2]), next_way(net, READ[:2], AM))
        self.check_right(lambda value: shows_fitting(value=value, readings=READ, net=net), fitting(net, READ))
        self.check_right(lambda value: shows_mended(value=value, readings=TORN, net=net), mended(net, TORN))
        self.check_right(lambda value: shows_reckoned(value=value, weights=AM, readings=READ, net=net), reckoned(net, READ, AM))

    def test_equal_calls(self):
        draw = random.Random("equal")
        for net in some_nets("equal"):
            again = Net(net.text)
            for wrong in (0, 1):
                readings = drawn_readings(draw, net, 6, wrong)
                for one in (net, again, net):
                    for tell in (fitting, mended):
                        self.check(tell(one, tuple(list(readings))), tell(net, readings))
                    for tell in (reckoned, next_way):
                        if some_fit(net, readings):
                            self.check(tell(one, readings, unit(net, 0)), tell(again, readings, unit(net, 0)))
                        else:
                            self.check(raised(Torn, tell, one, readings, unit(net, 0)),
                                       raised(Torn, tell, again, readings, unit(net, 0)))
            self.assertEqual(net, again)


if __name__ == "__main__":
    unittest.main()

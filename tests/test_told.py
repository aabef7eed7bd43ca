"""Point 7: what told, tie_told, sure_ties, whole and base tell, held against what the tests reckon by themselves."""

import copy
import itertools
import random
import time
import unittest

from plain import (all_nets, costs_of, drawn_nets, is_made, joined, made, net_of, number_of, pair_of, plain_rank,
                   plain_row, plain_rows, plain_sums, plain_sure, plain_ways, rank, unit, worth)
from samples import (BOUNDS, FIVE, FULL, HOUSE, NETS, STAR, Checks, any_values, is_ascending, no_costs, raised,
                     same)
from tiesums.errors import BadWeights, NoTie
from tiesums.nets import Net
from tiesums.told import (base, shows_base, shows_tie_told, shows_told, shows_whole, sure_ties, tie_told, told,
                          whole)


def drawn_weights(draw, net):
    """Weights of one tie, of ways, of sums of ways, of none, and drawn ones."""
    many, rows = len(net.ties), plain_rows(net)
    found = [unit(net, draw.randrange(many)), costs_of(*[0] * many), costs_of(*[1] * many)]
    found.append(tuple(pair_of(f"{draw.randint(-4, 4)}/{draw.randint(1, 4)}") for _ in range(many)))
    for count in (1, 2, 4):
        if rows:
            some = [(number_of((draw.randint(-3, 3), draw.randint(1, 3))), draw.choice(rows)) for _ in range(count)]
            found.append(tuple(pair_of(sum(times * row[at] for times, row in some)) for at in range(many)))
    if rows:
        found.append(costs_of(*draw.choice(rows)))
    return found


class Results(Checks):

    def check_costs(self, net, costs):
        self.assertIs(type(costs), tuple)
        self.assertEqual(len(costs), len(net.ties))
        for one in costs:
            self.check(one, pair_of(number_of(one)))

    def check_signed(self, net, signed, weights):
        self.assertIs(type(signed), tuple)
        for row in signed:
            self.check((type(row), len(row)), (tuple, 2))
            self.assertIn(row[0], plain_ways(net))
            self.check(row[1], pair_of(number_of(row[1])))
            self.assertNotEqual(row[1], (0, 1))
        self.assertTrue(is_ascending([row[0] for row in signed]))
        self.check(made(net, signed), weights)

    def check_apart(self, net, costs, others, weights):
        self.check_costs(net, costs)
        self.check_costs(net, others)
        self.assertEqual(plain_sums(net, costs), plain_sums(net, others))
        self.assertNotEqual(worth(costs, weights), worth(others, weights))

    def check_told(self, net, weights, value):
        self.assertIs(type(value), tuple)
        if is_made(net, weights):
            self.check((len(value), value[0]), (2, "told"))
            self.check_signed(net, value[1], weights)
        else:
            self.check((len(value), value[0]), (3, "alike"))
            self.check_apart(net, value[1], value[2], weights)


class Told(Results):

    def test_drawn_weights(self):
        draw = random.Random("told")
        for net in [*NETS, *drawn_nets("told", 60, most=7), *all_nets(3)]:
            for weights in drawn_weights(draw, net):
                value = told(net, weights)
                self.check_told(net, weights, value)
                self.check_right(shows_told, net, weights, value)

    def test_both_kinds(self):
        house = Net(HOUSE)
        self.check(told(house, costs_of(0, 0, 0, 2, 2))[0], "told")
        self.check(told(house, costs_of(0, 0, 0, 2, 1))[0], "alike")
        self.check(told(house, costs_of(7, "1/2", -3, "1/3", "1/3"))[0], "told")
        self.check(told(house, costs_of(0, 0, 0, "1/3", 0))[0], "alike")

    def test_weights_of_nothing_need_no_ways(self):
        for net in NETS:
            self.check_signed(net, told(net, costs_of(*[0] * len(net)))[1], costs_of(*[0] * len(net)))
        self.check(told(net_of("abc", "ab", "ac"), costs_of(0)), ("told", ()))
        self.check(told(net_of("abc", "ab", "ac"), costs_of(1))[0], "alike")

    def test_worth_is_that_of_the_signed_ways(self):
        for net in (Net(STAR), Net(HOUSE), FIVE):
            weights = costs_of(*plain_rows(net)[1])
            costs = costs_of(*[f"{number}/{number + 2}" for number in range(len(net))])
            signed = dict(told(net, weights)[1])
            wanted = sum(number_of(signed[way]) * one for way, one in zip(plain_ways(net), plain_sums(net, costs)) if way in signed)
            self.assertEqual(wanted, worth(costs, weights))

    def test_great_weights(self):
        draw = random.Random("great")
        for net in (Net(STAR), Net(HOUSE), BOUNDS[1]):
            many = len(net)
            weights = costs_of(*[f"{draw.randint(-10 ** 40, 10 ** 40)}/{draw.randint(1, 10 ** 40)}" for _ in range(many)])
            self.check_told(net, weights, told(net, weights))
            signed = [(way, (draw.randint(1, 10 ** 30), 7)) for way in plain_ways(net)]
            weights = made(net, joined(signed))
            self.check_told(net, weights, told(net, weights))
            self.check_right(shows_told, net, weights, ("told", joined(signed)))

    def test_what_was_told_is_handed_in_again(self):
        house = Net(HOUSE)
        costs, others = tie_told(house, ("a", "p"))[1:]
        for weights in (costs, others):
            self.check_told(house, weights, told(house, weights))


class TieTold(Results):

    def test_each_tie(self):
        for net in [*NETS, *drawn_nets("ties", 60, most=7), *all_nets(3)]:
            for number, tie in enumerate(net.ties):
                value = tie_told(net, tie)
                self.check_told(net, unit(net, number), value)
                self.check(value, told(net, unit(net, number)))
                self.check_right(shows_tie_told, net, tie, value)

    def test_star(self):
        wanted = ((("a", "m", "b"), (1, 2)), (("a", "m", "c"), (1, 2)), (("b", "m", "c"), (-1, 2)))
        self.check(tie_told(Net(STAR), ("a", "m")), ("told", wanted))


class SureTies(Results):

    def test_against_own_reckoning(self):
        for net in [*NETS, *drawn_nets("sure", 100, most=7), *all_nets(3), *itertools.islice(all_nets(4), 0, None, 3)]:
            self.check(sure_ties(net), plain_sure(net))

    def test_some(self):
        self.check(sure_ties(Net(STAR)), (0, 1, 2))
        self.check(sure_ties(Net(HOUSE)), (0, 1, 2))
        self.check(sure_ties(net_of("abc", "ab", "ab")), (0,))
        self.check(sure_ties(net_of("abc", "ab", "ac")), ())
        self.check(sure_ties(net_of("abcde", "abcde", "de ab")), (0, 1))

    def test_they_are_those_that_tie_told_tells(self):
        for net in (Net(HOUSE), *drawn_nets("tells", 20)):
            wanted = tuple(number for number, tie in enumerate(net.ties) if tie_told(net, tie)[0] == "told")
            self.check(sure_ties(net), wanted)


class Whole(Results):

    def check_whole(self, net, value):
        self.assertIs(type(value), tuple)
        if len(plain_sure(net)) == len(net.ties):
            self.check((len(value), value[0], type(value[1]), len(value[1])), (2, "all", tuple, len(net.ties)))
            for number, signed in enumerate(value[1]):
                self.check_signed(net, signed, unit(net, number))
        else:
            self.check((len(value), value[0], type(value[1])), (4, "not", int))
            self.assertIn(value[1], range(len(net.ties)))
            self.check_apart(net, value[2], value[3], unit(net, value[1]))

    def test_nets(self):
        for net in [*NETS, *drawn_nets("whole", 100, most=7), *all_nets(3), *itertools.islice(all_nets(4), 0, None, 3)]:
            value = whole(net)
            self.check_whole(net, value)
            self.check_right(shows_whole, net, value)

    def test_some(self):
        self.check(whole(Net(STAR))[0], "all")
        self.check(whole(Net(HOUSE))[0], "not")
        self.assertIn(whole(Net(HOUSE))[1], (3, 4))
        self.check(whole(net_of("abc", "ab", "ab")), ("all", (((("a", "b"), (1, 1)),),)))
        self.check(whole(net_of("abc", "ab", "ac"))[:2], ("not", 0))


class Base(Results):

    def check_base(self, net, value):
        self.assertIs(type(value), tuple)
        self.assertTrue(is_ascending(value))
        for way in value:
            self.assertIn(way, plain_ways(net))
        self.assertEqual(len(value), plain_rank(net))
        self.assertEqual(rank([plain_row(net, way) for way in value]), plain_rank(net))

    def test_nets(self):
        for net in [*NETS, *drawn_nets("base", 100, most=7), *all_nets(3), *itertools.islice(all_nets(4), 0, None, 3)]:
            value = base(net)
            self.check_base(net, value)
            self.check_right(shows_base, net, value)

    def test_some(self):
        self.assertEqual([len(base(net)) for net in (Net(STAR), Net(HOUSE), net_of("abc", "ab", "ac"), FULL)], [3, 4, 0, 14])
        self.check(base(net_of("abc", "ab", "ac bc")), (("a", "c", "b"),))
        self.check(base(net_of("abc", "ab", "ac")), ())


def no_ties(net):
    found = any_values() + [net, net.ties, net.ties[:1], net.text, 0, True, "tie a b", "ab", ("x", "y")]
    for one, other in net.ties:
        found += [(other, one), [one, other], (one, other, one), (one,), one, one + other, (one, [other]), (one, "x"),
                  ("x", other), (one, one), (one, other, ""), {one: other}, ((one, other),), ("", one, other), (0, other)]
    for pair in itertools.permutations(net.places, 2):
        found.append(pair)
    return [value for value in found if not any(same(value, tie) for tie in net.ties)]


class WrongArguments(Checks):

    NETS = (Net(STAR), Net(HOUSE), net_of("abc", "ab", "bc"), net_of("abcd", "ad", "ab cd"))

    def test_no_weights(self):
        for net in self.NETS:
            right = told(net, unit(net, 0))
            for value in no_costs(net):
                self.assertIs(raised(BadWeights, told, net, value), value)
                self.assertIs(raised(BadWeights, shows_told, net, value, right), value)

    def test_no_tie(self):
        for net in self.NETS:
            right = tie_told(net, net.ties[0])
            for value in no_ties(net):
                self.assertIs(raised(NoTie, tie_told, net, value), value)
                self.assertIs(raised(NoTie, shows_tie_told, net, value, right), value)

    def test_whatever_is_to_be_shown(self):
        house, weights = Net(HOUSE), costs_of(1, 2, 3)
        for value in any_values():
            self.assertIs(raised(BadWeights, shows_told, house, weights, value), weights)
            self.check(raised(NoTie, shows_tie_told, house, ("b", "a"), value), ("b", "a"))

    def test_what_is_handed_in_stays(self):
        house = Net(HOUSE)
        for value in ([(1, 1)] * 5, ["a", "b"], {"a": [1]}, ("told", [[]]), ["told", ()], ("alike", [(1, 1)] * 5, [])):
            before = copy.deepcopy(value)
            raised(BadWeights, told, house, value)
            raised(NoTie, tie_told, house, value)
            for shown in (shows_told(house, unit(house, 0), value), shows_tie_told(house, ("a", "b"), value),
                          shows_whole(house, value), shows_base(house, value)):
                self.assertIs(shown, False)
            self.check(value, before)
        self.assertEqual(house, Net(HOUSE))
        self.check((house.text, house.ties, house.watchers), (HOUSE, Net(HOUSE).ties, ("a", "b", "c")))


class Calls(Checks):

    def test_by_names(self):
        house = Net(HOUSE)
        weights, tie = costs_of(0, 0, 0, 1, 1), ("a", "p")
        self.check(told(weights=weights, net=house), told(house, weights))
        self.check(told(house, weights=weights), told(house, weights))
        self.check(tie_told(tie=tie, net=house), tie_told(house, tie))
        self.check(sure_ties(net=house), sure_ties(house))
        self.check(whole(net=house), whole(house))
        self.check(base(net=house), base(house))
        self.check_right(lambda value: shows_told(value=value, net=house, weights=weights), told(house, weights))
        self.check_right(lambda value: shows_tie_told(tie=tie, value=value, net=house), tie_told(house, tie))
        self.check_right(lambda value: shows_whole(value=value, net=house), whole(house))
        self.check_right(lambda value: shows_base(value=value, net=house), base(house))

    def test_equal_calls(self):
        draw = random.Random("equal")
        for net in [*NETS, *drawn_nets("equal", 20)]:
            again = Net(net.text)
            for weights in drawn_weights(draw, net):
                self.check(told(net, weights), told(again, tuple(list(weights))))
                self.check(told(net, weights), told(net, weights))
            for tie in net.ties:
                self.check(tie_told(net, tie), tie_told(again, tie))
            for tell in (sure_ties, whole, base):
                self.check(tell(net), tell(again))
                self.check(tell(net), tell(net))
            self.assertEqual(net, again)

    def test_time(self):
        start = time.monotonic()
        for net in BOUNDS:
            value = whole(net)
            self.check_right(shows_whole, net, value)
            self.check_right(shows_base, net, base(net))
            for tie in net.ties:
                self.check_right(shows_tie_told, net, tie, tie_told(net, tie))
        self.assertLess(time.monotonic() - start, 10)


if __name__ == "__main__":
    unittest.main()

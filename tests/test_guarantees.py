"""Point 3, as far as it speaks of ways, what is told, blind parts and who has to watch."""

import itertools
import random
import unittest
from fractions import Fraction

from plain import all_nets, costs_of, drawn_nets, net_of, number_of, pair_of, plain_blind, plain_sums, worth
from samples import BOUNDS, NETS, Checks
from tiesums.blind import bent, blind, edge, parts
from tiesums.nets import Net
from tiesums.placing import gains, least
from tiesums.told import base, sure_ties, tie_told, told, whole
from tiesums.ways import along, sums, ways


def drawn_weights(draw, net):
    """Weights that are told, as far as there are any but 0, and others."""
    found = [costs_of(*[draw.randint(-2, 2) for _ in net.ties]) for _ in range(2)]
    for way in draw.sample(ways(net), min(2, len(ways(net)))):
        found.append(tuple((3, 2) if number in along(net, way) else (0, 1) for number in range(len(net))))
    return found


class AllCosts(Checks):
    """(a) What is told is reckoned from the sums of all costs; of what is not, no sum tells two costs apart."""

    def test_told(self):
        draw = random.Random("all costs")
        for net in [*NETS, *drawn_nets("all costs", 40)]:
            for weights in [*drawn_weights(draw, net), *[(weight,) * len(net) for weight in ((1, 1), (0, 1))]]:
                result = told(net, weights)
                if result[0] == "told":
                    self.check_reckoned(draw, net, weights, result[1])
                else:
                    self.check(sums(net, result[1]), sums(net, result[2]))
                    self.assertNotEqual(worth(result[1], weights), worth(result[2], weights))

    def check_reckoned(self, draw, net, weights, signed):
        for _ in range(3):
            costs = costs_of(*[Fraction(draw.randint(-99, 99), draw.randint(1, 9)) for _ in net.ties])
            seen = dict(zip(ways(net), sums(net, costs)))
            reckoned = sum([number_of(number) * number_of(seen[way]) for way, number in signed], start=Fraction(0))
            self.assertEqual(reckoned, worth(costs, weights))

    def test_whole(self):
        draw = random.Random("whole")
        for net in [*NETS, *drawn_nets("whole", 30, most=6)]:
            result = whole(net)
            if result[0] == "all":
                for number, signed in enumerate(result[1]):
                    weights = tuple((1, 1) if at == number else (0, 1) for at in range(len(net)))
                    self.check_reckoned(draw, net, weights, signed)
            else:
                self.assertEqual(plain_sums(net, result[2]), plain_sums(net, result[3]))
                self.assertNotEqual(result[2][result[1]], result[3][result[1]])


class More(Checks):
    """(b) With a watcher more, or a tie more, what was told is told."""

    def larger(self, net):
        for place in net.places:
            if place not in net.watchers:
                yield net.with_watcher(place), 0
        if len(net) < 14:
            for pair in itertools.combinations(net.places, 2):
                if pair not in net:
                    yield net.with_tie(*pair), 1

    def test_ties(self):
        for net in [*NETS[:6], *drawn_nets("more", 40, most=6), *itertools.islice(all_nets(4), 0, None, 17)]:
            for other, more in self.larger(net):
                self.assertLessEqual(set(sure_ties(net)), set(sure_ties(other)))
                self.assertLessEqual(len(base(net)), len(base(other)))

    def test_weights(self):
        draw = random.Random("more weights")
        for net in drawn_nets("more weights", 30, most=6):
            for weights in drawn_weights(draw, net):
                if told(net, weights)[0] == "told":
                    for other, more in self.larger(net):
                        self.assertEqual(told(other, weights + ((0, 1),) * more)[0], "told")

    def test_gains(self):
        for net in drawn_nets("gains", 30, most=7):
            for place, numbers in gains(net):
                self.assertLessEqual(set(sure_ties(net)), set(numbers))


class BlindParts(Checks):
    """(c) All ties are told exactly if no part is blind."""

    def check_net(self, net):
        self.assertEqual(blind(net) == ("none",), whole(net)[0] == "all", net.text)
        self.assertEqual(len(sure_ties(net)) == len(net), whole(net)[0] == "all")

    def test_all_nets_of_three_and_four_places(self):
        for net in itertools.chain(all_nets(3), all_nets(4)):
            self.check_net(net)

    def test_nets_of_five_places(self):
        for net in itertools.islice(all_nets(5), 0, None, 19):
            self.check_net(net)

    def test_drawn_nets(self):
        told_nets = 0
        for net in [*BOUNDS, *drawn_nets("blind parts", 200, least=5)]:
            self.check_net(net)
            told_nets += blind(net) == ("none",)
        self.assertGreater(told_nets, 30)

    def test_least_is_that_no_part_is_blind(self):
        for net in drawn_nets("least", 60):
            lot, reasons = least(net)
            self.check(blind(net_of(net.places, lot, net.ties)), ("none",))

    def test_ties_that_bent_bends_are_not_told(self):
        for net in [*NETS, *drawn_nets("bent", 40)]:
            for lot in plain_blind(net)[:5]:
                costs, others = bent(net, lot)
                unlike = [number for number in range(len(net)) if costs[number] != others[number]]
                self.assertTrue(unlike)
                self.assertFalse(set(unlike) & set(sure_ties(net)))


class Names(Checks):
    """(d) By other names, and in another sequence of places or of ties, the same is told."""

    def changed(self, draw, net):
        """The net by other names, in another sequence, and the names that stand for the old ones."""
        names = ["q", "rs", "z", "a", "ab", "k", "yyyyyyyy", "b"]
        draw.shuffle(names)
        by = dict(zip(net.places, names))
        places = draw.sample([by[place] for place in net.places], len(net.places))
        watchers = [place for place in places if place in [by[one] for one in net.watchers]]
        ties = [tuple(sorted([by[one], by[other]], key=places.index)) for one, other in net.ties]
        return net_of(places, watchers, draw.sample(ties, len(ties))), by

    def moved(self, net, by, lot):
        return tuple(sorted([by[place] for place in lot], key=net.places.index))

    def setUp(self):
        draw = random.Random("names")
        nets = [*NETS, *drawn_nets("names", 50, most=7)]
        self.pairs = [(net, *self.changed(draw, net)) for net in nets]

    def test_ways(self):
        for net, other, by in self.pairs:
            turned = [tuple(by[place] for place in way) for way in ways(net)]
            ahead = [way if other.places.index(way[0]) < other.places.index(way[-1]) else way[::-1] for way in turned]
            self.check(ways(other), tuple(sorted(ahead)))

    def test_ties(self):
        for net, other, by in self.pairs:
            wanted = {self.moved(other, by, net.ties[number]) for number in sure_ties(net)}
            self.assertEqual({other.ties[number] for number in sure_ties(other)}, wanted)
            for tie in net.ties:
                self.assertEqual(tie_told(net, tie)[0], tie_told(other, self.moved(other, by, tie))[0])
            self.assertEqual(whole(net)[0], whole(other)[0])
            self.assertEqual(len(base(net)), len(base(other)))

    def test_weights(self):
        draw = random.Random("weights")
        for net, other, by in self.pairs:
            for weights in drawn_weights(draw, net):
                of = {self.moved(other, by, tie): weight for tie, weight in zip(net.ties, weights)}
                self.assertEqual(told(net, weights)[0], told(other, tuple(of[tie] for tie in other.ties))[0])

    def test_parts(self):
        for net, other, by in self.pairs:
            moved = {lot: self.moved(other, by, lot) for lot in parts(net)}
            self.assertEqual(set(parts(other)), set(moved.values()))
            for lot in parts(net):
                self.check(edge(other, moved[lot]), self.moved(other, by, edge(net, lot)))
            self.assertEqual(blind(net)[0], blind(other)[0])

    def test_placing(self):
        for net, other, by in self.pairs:
            self.assertEqual(len(least(net)[0]), len(least(other)[0]))
            wanted = {by[place]: {self.moved(other, by, net.ties[number]) for number in numbers} for place, numbers in gains(net)}
            self.assertEqual({place: {other.ties[at] for at in numbers} for place, numbers in gains(other)}, wanted)

    def test_sums(self):
        for net, other, by in self.pairs:
            costs = costs_of(*[Fraction(number, 3) for number in range(len(net))])
            of = {self.moved(other, by, tie): cost for tie, cost in zip(net.ties, costs)}
            found = sums(other, tuple(of[tie] for tie in other.ties))
            self.assertEqual(sorted(found), sorted(sums(net, costs)))

    def test_ties_in_another_sequence_alone(self):
        for net in NETS:
            other = net_of(net.places, net.watchers, net.ties[::-1])
            self.check(ways(other), ways(net))
            self.check(parts(other), parts(net))
            self.check(blind(other), blind(net))
            self.check(least(other), least(net))
            last = len(net) - 1
            self.check(sure_ties(other), tuple(sorted(last - number for number in sure_ties(net))))


class WhatWasTold(Checks):
    """Point 2: what was told may be handed in again, however great or long it is, also put together."""

    def test_costs_and_numbers_as_weights(self):
        for net in [Net(NETS[1].text), *drawn_nets("again", 30, most=6)]:
            result = whole(net)
            if result[0] == "not":
                for weights in (result[2], result[3], tuple(pair_of(number_of(one) * number_of((7, 3))) for one in result[3])):
                    self.assertIn(told(net, weights)[0], ("told", "alike"))
                    self.check(sums(net, weights), tuple(pair_of(one) for one in plain_sums(net, weights)))


if __name__ == "__main__":
    unittest.main()

"""Point 3 (a), (b) and (d), as far as they speak of failed ties, readings and nets beside one another."""

import itertools
import random
import unittest
from fractions import Fraction

from plain import (costs_of, dot, drawn_nets, drawn_readings, net_of, number_of, pair_of, plain_row, plain_sums, plain_ways,
                   unit, worth)
from samples import APART, BOUNDS, FIVE, HOUSE, RING, STAR, Checks
from tiesums.beside import alike, within
from tiesums.failing import blame, groups, verdict
from tiesums.nets import Net
from tiesums.readings import fitting, mended, next_way, reckoned
from tiesums.ways import along, ways

HOUSE_NET, STAR_NET = Net(HOUSE), Net(STAR)


def some_nets(seed, count=20, most=6):
    return [STAR_NET, HOUSE_NET, RING, APART, FIVE, *[net for net in drawn_nets(seed, count, most=most) if plain_ways(net)]]


def drawn_weights(draw, net, readings):
    found = [unit(net, draw.randrange(len(net))), costs_of(*[draw.randint(-2, 2) for _ in net.ties])]
    row = [0] * len(net)
    for way, amount in readings:
        times = Fraction(draw.randint(-3, 3), 2)
        row = [one + times * other for one, other in zip(row, plain_row(net, way))]
    return found + [costs_of(*row)]


class AllCosts(Checks):
    """(a) What is told is reckoned from the sums of all costs; of what is not, costs are told that nothing tells apart."""

    def test_reckoned(self):
        draw = random.Random("all costs")
        for net in [*some_nets("all costs"), *BOUNDS]:
            chosen = [draw.choice(plain_ways(net)) for _ in range(draw.randint(1, 9))]
            for _ in range(3):
                costs = [draw.randint(-999999999, 999999999) for _ in net.ties]
                readings = tuple((way, sum(costs[number] for number in along(net, way))) for way in chosen)
                for weights in drawn_weights(draw, net, readings):
                    value = reckoned(net, readings, weights)
                    if value[0] == "sure":
                        self.assertEqual(number_of(value[1]), worth(costs_of(*costs), weights))
                        by_sums = sum([number_of(one) * amount for one, (way, amount) in zip(value[2], readings)], start=Fraction(0))
                        self.assertEqual(by_sums, number_of(value[1]))
                    else:
                        for one in value[1:]:
                            self.assertTrue(all(dot(plain_row(net, way), one) == amount for way, amount in readings))
                        self.assertNotEqual(worth(value[1], weights), worth(value[2], weights))

    def test_within(self):
        draw = random.Random("within")
        for net in some_nets("within"):
            lots = [sorted(draw.sample(net.places, draw.randint(2, len(net.places))), key=net.places.index) for _ in range(2)]
            one, other = [net_of(net.places, lot, net.ties) for lot in lots]
            value = within(one, other)
            if value[0] == "within":
                costs = costs_of(*[Fraction(draw.randint(-99, 99), draw.randint(1, 9)) for _ in net.ties])
                seen = dict(zip(plain_ways(one), plain_sums(one, costs)))
                found = [sum([number_of(number) * seen[way] for way, number in row], start=Fraction(0)) for row in value[1]]
                self.assertEqual(found, plain_sums(other, costs))
            else:
                self.assertEqual(plain_sums(one, value[1]), plain_sums(one, value[2]))
                self.assertNotEqual(plain_sums(other, value[1]), plain_sums(other, value[2]))


class More(Checks):
    """(b) With a watcher more, or a tie more, what was told is told."""

    def larger(self, net):
        for place in net.places:
            if place not in net.watchers:
                yield net.with_watcher(place), 0
        if len(net) < 14:
            for pair in itertools.combinations(net.places, 2):
                if pair not in net:
                    yield net.with_tie(*pair), 1

    def test_readings_tell_the_same(self):
        draw = random.Random("larger")
        for net in some_nets("larger"):
            readings = drawn_readings(draw, net, draw.randint(0, 6))
            for weights in drawn_weights(draw, net, readings):
                value = reckoned(net, readings, weights)
                for other, more in self.larger(net):
                    found = reckoned(other, readings, weights + ((0, 1),) * more)
                    self.check(found[:2] if found[0] == "sure" else found[:1], value[:2] if value[0] == "sure" else value[:1])

    def test_a_next_way_stays_one(self):
        draw = random.Random("next")
        for net in some_nets("next"):
            readings = drawn_readings(draw, net, draw.randint(0, 6))
            for weights in drawn_weights(draw, net, readings):
                if next_way(net, readings, weights)[0] != "more":
                    for other, more in self.larger(net):
                        value = next_way(other, readings, weights + ((0, 1),) * more)
                        self.assertEqual(value[0], next_way(net, readings, weights)[0])

    def test_with_a_watcher_more_all_is_within(self):
        for net in some_nets("watchers"):
            for other, more in self.larger(net):
                if not more:
                    self.assertEqual(within(other, net)[0], "within")


class Names(Checks):
    """(d) By other names, and in another sequence of places or of ties, the same is told."""

    def changed(self, draw, net):
        names = ["q", "rs", "z", "a", "ab", "k", "yyyyyyyy", "b"]
        draw.shuffle(names)
        by = dict(zip(net.places, names))
        places = draw.sample([by[place] for place in net.places], len(net.places))
        watchers = [place for place in places if place in [by[one] for one in net.watchers]]
        ties = draw.sample([tuple(sorted([by[one], by[other]], key=places.index)) for one, other in net.ties], len(net))
        return net_of(places, watchers, ties), by

    def moved_way(self, other, by, way):
        turned = tuple(by[place] for place in way)
        return turned if other.places.index(turned[0]) < other.places.index(turned[-1]) else turned[::-1]

    def moved_tie(self, other, by, tie):
        return other.ties.index(tuple(sorted([by[place] for place in tie], key=other.places.index)))

    def moved_numbers(self, net, other, by, numbers):
        return tuple(sorted(self.moved_tie(other, by, net.ties[number]) for number in numbers))

    def moved_readings(self, other, by, readings):
        return tuple((self.moved_way(other, by, way), amount) for way, amount in readings)

    def moved_weights(self, net, other, by, weights):
        found = [None] * len(net)
        for tie, weight in zip(net.ties, weights):
            found[self.moved_tie(other, by, tie)] = weight
        return tuple(found)

    def setUp(self):
        self.draw = random.Random("names")
        self.pairs = [(net, *self.changed(self.draw, net)) for net in some_nets("names", 25)]

    def test_groups(self):
        for net, other, by in self.pairs:
            self.check(groups(other), tuple(sorted(self.moved_numbers(net, other, by, group) for group in groups(net))))

    def test_blame(self):
        for net, other, by in self.pairs:
            for many in range(min(4, len(net) + 1)):
                numbers = self.draw.sample(range(len(net)), many)
                failed = tuple(way for way in ways(net) if set(along(net, way)) & set(numbers))
                moved = tuple(sorted(self.moved_way(other, by, way) for way in failed))
                found = blame(net, failed, 3)
                self.check(blame(other, moved, 3), tuple(sorted(self.moved_numbers(net, other, by, some) for some in found)))
                self.check(verdict(other, moved, 3), tuple(self.moved_numbers(net, other, by, some)
                                                           for some in verdict(net, failed, 3)))

    def test_readings(self):
        for net, other, by in self.pairs:
            for wrong in (0, 1):
                readings = drawn_readings(self.draw, net, 5, wrong)
                moved = self.moved_readings(other, by, readings)
                self.assertEqual(fitting(net, readings)[0], fitting(other, moved)[0])
                left = mended(net, readings)[0]
                self.check(mended(other, moved)[0], left)
                rest = tuple(one for at, one in enumerate(readings) if at not in left)
                for weights in drawn_weights(self.draw, net, rest):
                    value = reckoned(net, rest, weights)
                    others = self.moved_readings(other, by, rest), self.moved_weights(net, other, by, weights)
                    found = reckoned(other, *others)
                    self.check(found[:2] if found[0] == "sure" else found[0], value[:2] if value[0] == "sure" else value[0])
                    self.assertEqual(next_way(net, rest, weights)[0], next_way(other, *others)[0])

    def test_ways_in_the_sequence_of_names(self):
        # The first next way is told by its letters, whatever the sequence of the places.
        net = net_of("zyx", "zyx", "zy zx yx")
        self.check(next_way(net, (), unit(net, 0)), ("way", ("z", "y")))
        weights = tuple(pair_of(one) for one in (1, 0, 1))
        self.check(next_way(net, (), weights), ("way", ("z", "y", "x")))
        self.check(next_way(net, ((("z", "y"), 1),), weights), ("way", ("y", "x")))

    def test_beside(self):
        for net, other, by in self.pairs:
            lot = [place for place in net.places if self.draw.random() < 0.6]
            if len(lot) >= 2:
                one = net_of(net.places, lot, net.ties)
                moved = net_of(other.places, [place for place in other.places if place in [by[p] for p in lot]], other.ties)
                self.assertEqual(within(one, net)[0], within(moved, other)[0])
                self.assertEqual(within(net, one)[0], within(other, moved)[0])
                self.assertEqual(alike(net, one)[0], alike(other, moved)[0])


if __name__ == "__main__":
    unittest.main()

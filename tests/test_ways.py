"""Point 6: ways, the ties that they go along, and the sums of costs."""

import copy
import itertools
import random
import time
import unittest

from plain import all_nets, costs_of, drawn_net, drawn_nets, net_of, pair_of, plain_row, plain_sums, plain_ways
from samples import APART, FIVE, FULL, HOUSE, RING, ROW, STAR, Checks, any_values, is_ascending, no_costs, raised
from tiesums.errors import BadCosts, BadWay
from tiesums.nets import Net
from tiesums.ways import along, sums, ways


class Ways(Checks):

    def test_star(self):
        self.check(ways(Net(STAR)), (("a", "m", "b"), ("a", "m", "c"), ("b", "m", "c")))

    def test_house(self):
        wanted = (("a", "b"), ("a", "b", "c"), ("a", "c"), ("a", "c", "b"), ("a", "p", "b"), ("a", "p", "b", "c"),
                  ("b", "a", "c"), ("b", "c"), ("b", "p", "a", "c"))
        self.check(ways(Net(HOUSE)), wanted)

    def test_ring(self):
        wanted = (("a", "b", "c"), ("a", "b", "c", "d", "e"), ("a", "e"), ("a", "e", "d", "c"),
                  ("c", "b", "a", "e"), ("c", "d", "e"))
        self.check(ways(RING), wanted)

    def test_row_whose_sequence_is_not_that_of_letters(self):
        self.check(ways(ROW), (("c", "b", "a"), ("e", "d", "c"), ("e", "d", "c", "b", "a")))

    def test_places_between_may_watch(self):
        self.assertIn(("e", "d", "c", "b", "a"), ways(ROW))
        self.assertIn(("p", "r", "t", "s", "q"), ways(FIVE))

    def test_two_watchers(self):
        self.check(ways(net_of("abc", "ac", "ab bc")), (("a", "b", "c"),))
        self.check(ways(net_of("abc", "ac", "ac")), (("a", "c"),))
        self.check(ways(net_of("abc", "ac", "ab bc ac")), (("a", "b", "c"), ("a", "c")))

    def test_none(self):
        self.check(ways(net_of("abc", "ac", "ab")), ())
        self.check(ways(net_of("abcd", "ab", "cd")), ())
        self.check(ways(net_of("abcd", "ad", "ab cd")), ())

    def test_what_does_not_hang_together(self):
        self.check(ways(APART), (("a", "b"), ("a", "c", "b"), ("d", "e")))
        self.check(ways(net_of("abcde", "abcde", "de")), (("d", "e"),))

    def test_a_place_that_comes_last_is_passed(self):
        self.check(ways(net_of("ab" + "z", "ab", "az bz")), (("a", "z", "b"),))

    def test_all_ties_of_five_places(self):
        # 10 pairs of ends; between them none, 3, 3 times 2, or 3 times 2 times 1 rows of places.
        found = ways(FIVE)
        self.assertEqual(len(found), 10 * (1 + 3 + 6 + 6))
        self.check(found, plain_ways(FIVE))

    def test_eight_places_with_fourteen_ties(self):
        self.assertEqual(len(ways(FULL)), 976)
        self.check(ways(FULL), plain_ways(FULL))
        self.check(ways(net_of("abcdefgh", "bg", FULL.ties)), plain_ways(net_of("abcdefgh", "bg", FULL.ties)))

    def test_just_the_rows_that_are_ways(self):
        for net in itertools.chain(all_nets(3), all_nets(4), drawn_nets("ways", 150, most=6)):
            found = ways(net)
            self.assertTrue(is_ascending(found))
            self.check(found, plain_ways(net))

    def test_ties_in_another_sequence(self):
        net = net_of("abcdefgh", "bdg", FULL.ties)
        self.check(ways(net_of("abcdefgh", "bdg", FULL.ties[::-1])), ways(net))

    def test_time(self):
        start = time.monotonic()
        sums(FULL, ((123456789012, 1234567),) * 14)
        for way in ways(FULL):
            along(FULL, way)
        self.assertLess(time.monotonic() - start, 5)


def no_ways(net):
    """Values that are no ways of the net: ways that are turned about, cut, led on, with a place twice, or of a kind."""
    found = any_values() + [net, net.places, net.watchers, net.ties, plain_ways(net), net.text, 0]
    found += [(place,) for place in net.places] + [(place, place) for place in net.places]
    for way in plain_ways(net):
        found += [way[::-1], way[1:], way[:-1], list(way), (way,), [way], " ".join(way), "".join(way), way + way]
        found += [way + way[::-1][1:], way[:1] + way, way + way[-1:], way[1:] + way[:1], way + ("",), way + (None,)]
        found += [way + (place,) for place in (*net.places, "q", "qq")] + [(place,) + way for place in net.places]
        found += [way[:1] + (place,) + way[1:] for place in net.places] + [(0,) + way, (True,) + way, way + (1,)]
        found += [way[:1] + (["a"],) + way[1:], way[:1] + (way[1:],), ({},) + way, tuple((place,) for place in way)]
        found += [tuple(place.upper() for place in way), dict(enumerate(way)), way[:1] + (None,) + way[2:]]
    return [value for value in found if not (isinstance(value, tuple) and value in plain_ways(net))]


class Along(Checks):

    def test_example(self):
        self.check(along(Net(HOUSE), ("a", "p", "b", "c")), (1, 3, 4))

    def test_each_way(self):
        for net in [RING, ROW, APART, FIVE, FULL, *drawn_nets("along", 40, most=6)]:
            for way in plain_ways(net):
                row = plain_row(net, way)
                self.check(along(net, way), tuple(at for at, one in enumerate(row) if one))

    def test_numbers_ascend_whatever_the_sequence_of_the_way(self):
        net = net_of("abcd", "ad", "cd bc ab")
        self.check(along(net, ("a", "b", "c", "d")), (0, 1, 2))

    def test_no_way(self):
        for net in [Net(STAR), Net(HOUSE), RING, ROW, APART, net_of("abc", "ab", "bc"), *drawn_nets("no way", 6, most=5)]:
            for value in no_ways(net):
                self.assertIs(raised(BadWay, along, net, value), value)

    def test_what_is_handed_in_stays(self):
        for value in (["a", "p", "b"], (["a"], "p", "b"), {"a": ["b"]}, [("a", "b")]):
            before = copy.deepcopy(value)
            raised(BadWay, along, Net(HOUSE), value)
            raised(BadCosts, sums, Net(HOUSE), value)
            self.check(value, before)

    def test_all_rows_of_places(self):
        for net in (Net(HOUSE), ROW, net_of("abcd", "bd", "ab bc cd bd")):
            for size in range(len(net.places) + 2):
                for row in itertools.product(net.places, repeat=size):
                    if row not in plain_ways(net):
                        self.assertIs(raised(BadWay, along, net, row), row)

    def test_the_first_place_is_ahead_in_sequence_not_by_letters(self):
        self.check(along(ROW, ("e", "d", "c")), (0, 1))
        self.check(raised(BadWay, along, ROW, ("c", "d", "e")), ("c", "d", "e"))

    def test_ends_that_do_not_watch(self):
        for way in (("a", "p"), ("p", "b"), ("a", "b", "p"), ("p", "a", "c")):
            self.check(raised(BadWay, along, Net(HOUSE), way), way)


class Sums(Checks):

    def test_example(self):
        self.check(sums(Net(STAR), ((1, 1), (1, 2), (-1, 3))), ((3, 2), (2, 3), (1, 6)))

    def test_below_zero_zero_and_halves(self):
        star = Net(STAR)
        self.check(sums(star, costs_of(-1, -2, -3)), ((-3, 1), (-4, 1), (-5, 1)))
        self.check(sums(star, costs_of(0, 0, 0)), ((0, 1),) * 3)
        self.check(sums(star, costs_of("1/2", "1/2", "-1/2")), ((1, 1), (0, 1), (0, 1)))
        self.check(sums(RING, costs_of(1, 2, 4, 8, 16)), costs_of(3, 15, 16, 28, 19, 12))

    def test_no_ways(self):
        self.check(sums(net_of("abcd", "ad", "ab cd"), costs_of(1, 2)), ())

    def test_ties_as_they_stand(self):
        self.check(sums(net_of("abcd", "ad", "cd ab bc"), costs_of(1, 2, 4)), ((7, 1),))
        self.check(sums(net_of("abcd", "abd", "cd ab bc"), costs_of(1, 2, 4)), costs_of(2, 7, 5))

    def test_drawn_costs(self):
        draw = random.Random("sums")
        for net in [RING, ROW, APART, FIVE, FULL, *drawn_nets("sums", 60, most=6)]:
            costs = tuple(pair_of(f"{draw.randint(-9, 9)}/{draw.randint(1, 6)}") for _ in net.ties)
            self.check(sums(net, costs), tuple(pair_of(one) for one in plain_sums(net, costs)))

    def test_great_costs(self):
        costs = costs_of(*[f"{10 ** 30 + number}/{10 ** 20 + number}" for number in range(14)])
        self.check(sums(FULL, costs), tuple(pair_of(one) for one in plain_sums(FULL, costs)))

    def test_no_costs(self):
        for net in (Net(STAR), Net(HOUSE), net_of("abc", "ab", "bc"), net_of("abc", "ab", "ab bc"), FULL):
            for value in no_costs(net):
                self.assertIs(raised(BadCosts, sums, net, value), value)

    def test_of_another_net(self):
        costs = costs_of(1, 2, 3)
        self.assertIs(raised(BadCosts, sums, Net(HOUSE), costs), costs)


class Calls(Checks):

    def test_by_names(self):
        house = Net(HOUSE)
        self.check(ways(net=house), ways(house))
        self.check(along(way=("a", "p", "b"), net=house), (3, 4))
        self.check(along(house, way=("a", "p", "b")), (3, 4))
        self.check(sums(costs=costs_of(1, 2, 3, 4, 5), net=house), sums(house, costs_of(1, 2, 3, 4, 5)))

    def test_equal_calls(self):
        draw = random.Random("equal")
        for _ in range(10):
            net = drawn_net(draw, 6, 10, 3)
            again = Net(net.text)
            costs = costs_of(*range(-5, 5))
            self.check(ways(net), ways(again))
            self.check(sums(net, costs), sums(again, costs))
            self.check(sums(net, costs), sums(net, costs))
            self.assertEqual(net, again)
            self.check((net.places, net.watchers, net.ties), (again.places, again.watchers, again.ties))


if __name__ == "__main__":
    unittest.main()

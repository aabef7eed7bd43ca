"""Point 12: what one net tells that another one with the same ties tells, too."""

import copy
import itertools
import random
import time
import unittest
from fractions import Fraction

from plain import (all_nets, costs_of, dependences, drawn_nets, hidden, is_made, joined, made, net_of, number_of, pair_of,
                   plain_row, plain_sums, plain_ways, watched_by)
from samples import APART, BOUNDS, FIVE, FULL, HOUSE, RING, ROW, STAR, Checks, any_values, is_ascending, raised
from tiesums.beside import alike, shows_alike, shows_within, within
from tiesums.errors import OtherTies
from tiesums.nets import Net
from tiesums.ways import ways

HOUSE_NET, STAR_NET = Net(HOUSE), Net(STAR)
FEWER, MORE = HOUSE_NET.without_watcher("c"), HOUSE_NET.with_watcher("p")
# The one way between a and d goes through b and c, wherever these watch or not; with them, more is told.
CHAIN = net_of("abcd", "ad", "ab bc cd")
# Whoever watches besides a and b in this triangle, or instead of them: all of its ties are told by any three.
SQUARE = net_of("abcd", "abc", "ab bc ac ad bd cd")


def pairs_of(net):
    """The net by all lots of watchers, two by two."""
    lots = [lot for size in range(2, len(net.places) + 1) for lot in itertools.combinations(net.places, size)]
    return [(watched_by(net, one), watched_by(net, other)) for one in lots for other in lots]


def some_pairs(seed):
    draw = random.Random(seed)
    nets = [STAR_NET, HOUSE_NET, CHAIN, SQUARE, RING, APART, ROW, FIVE, *drawn_nets(seed, 12, most=6)]
    found = [pair for net in nets for pair in draw.sample(pairs_of(net), 3)]
    return found + draw.sample(pairs_of(CHAIN), 20) + draw.sample(pairs_of(SQUARE), 20) + pairs_of(net_of("abc", "ab", "ac bc"))


def weights_of_way(net, way):
    return tuple((one, 1) for one in plain_row(net, way))


def plain_within(one, other):
    return all(is_made(one, weights_of_way(one, way)) for way in plain_ways(other))


class Results(Checks):

    def check_rows(self, one, other, rows):
        self.check((type(rows), len(rows)), (tuple, len(plain_ways(other))))
        for way, signed in zip(plain_ways(other), rows):
            self.assertIs(type(signed), tuple)
            self.assertTrue(is_ascending([row[0] for row in signed]))
            for row in signed:
                self.check((type(row), len(row)), (tuple, 2))
                self.assertIn(row[0], plain_ways(one))
                self.check(row[1], pair_of(number_of(row[1])))
                self.assertNotEqual(row[1], (0, 1))
            self.check(made(one, signed), weights_of_way(one, way))

    def check_parts(self, one, other, costs, others):
        for some in (costs, others):
            self.check((type(some), len(some)), (tuple, len(one.ties)))
            for cost in some:
                self.check(cost, pair_of(number_of(cost)))
        self.assertEqual(plain_sums(one, costs), plain_sums(one, others))
        self.assertNotEqual(plain_sums(other, costs), plain_sums(other, others))

    def check_within(self, one, other):
        value = within(one, other)
        if plain_within(one, other):
            self.check((type(value), len(value), value[0]), (tuple, 2, "within"))
            self.check_rows(one, other, value[1])
        else:
            self.check((type(value), len(value), value[0]), (tuple, 3, "parts"))
            self.check_parts(one, other, value[1], value[2])
        self.check_right(shows_within, one, other, value)

    def check_alike(self, one, other):
        value = alike(one, other)
        if plain_within(one, other) and plain_within(other, one):
            self.check((type(value), len(value), value[0]), (tuple, 3, "alike"))
            self.check_rows(one, other, value[1])
            self.check_rows(other, one, value[2])
        else:
            self.check((type(value), len(value), value[0], type(value[1])), (tuple, 4, "parts", int))
            self.assertIn(value[1], (0, 1))
            pair = (one, other) if value[1] == 0 else (other, one)
            self.check_parts(*pair, value[2], value[3])
        self.check_right(shows_alike, one, other, value)


class Within(Results):

    def test_pairs(self):
        for one, other in some_pairs("within"):
            self.check_within(one, other)

    def test_all_watchers_of_small_nets(self):
        for net in (HOUSE_NET, CHAIN, *itertools.islice(all_nets(3), 0, None, 5)):
            for one, other in pairs_of(net):
                self.check_within(one, other)

    def test_some(self):
        self.check(within(HOUSE_NET, FEWER)[0], "within")
        self.check(len(within(HOUSE_NET, FEWER)[1]), 3)
        self.check(within(FEWER, HOUSE_NET)[0], "parts")
        self.check(within(CHAIN, watched_by(CHAIN, "bd"))[0], "parts")
        self.check(within(watched_by(CHAIN, "abd"), CHAIN)[0], "within")
        # No way leads to another one: what other tells is nothing.
        self.check(within(CHAIN, net_of("abcd", "ad", "ab bc cd"))[1], (((("a", "b", "c", "d"), (1, 1)),),))
        self.check(within(net_of("abcd", "ac", "ab cd"), net_of("abcd", "ad", "ab cd")), ("within", ()))

    def test_other_watchers_that_tell_the_same(self):
        for one, other in itertools.permutations([watched_by(SQUARE, lot) for lot in ("abc", "abd", "acd", "bcd", "abcd")], 2):
            self.check(within(one, other)[0], "within")
            self.check_within(one, other)

    def test_more_watchers_tell_more(self):
        for net in drawn_nets("more", 20, most=7):
            for place in net.places:
                if place not in net.watchers:
                    self.check(within(net.with_watcher(place), net)[0], "within")

    def test_equal_nets(self):
        for net in (HOUSE_NET, STAR_NET, FIVE, APART, net_of("abc", "ab", "ac")):
            self.check_within(net, Net(net.text))
            self.check(within(net, net)[0], "within")


class Alike(Results):

    def test_pairs(self):
        for one, other in some_pairs("alike"):
            self.check_alike(one, other)

    def test_some(self):
        self.check(alike(HOUSE_NET, FEWER)[:2], ("parts", 1))
        self.check(alike(FEWER, HOUSE_NET)[:2], ("parts", 0))
        self.check(alike(HOUSE_NET, HOUSE_NET)[0], "alike")
        self.check(alike(*[watched_by(SQUARE, lot) for lot in ("abc", "bcd")])[0], "alike")
        self.check(alike(net_of("abcd", "ac", "ab cd"), net_of("abcd", "ad", "ab cd")), ("alike", (), ()))

    def test_both_tell_more(self):
        one, other = watched_by(CHAIN, "ab"), watched_by(CHAIN, "cd")
        self.check_alike(one, other)
        costs = {0: within(one, other)[1:], 1: within(other, one)[1:]}
        for number in (0, 1):
            self.check_right(shows_alike, one, other, ("parts", number, *costs[number]))
            self.check_wrong(shows_alike, one, other, ("parts", 1 - number, *costs[number]))
            self.check_wrong(shows_alike, one, other, ("parts", bool(number), *costs[number]))

    def test_it_is_within_both_ways(self):
        for one, other in some_pairs("both"):
            both = within(one, other)[0] == within(other, one)[0] == "within"
            self.assertEqual(alike(one, other)[0] == "alike", both)


class Shows(Results):

    def test_other_signed_ways(self):
        draw = random.Random("signed")
        for one, other in [(FIVE, watched_by(FIVE, "pqr")), (MORE, HOUSE_NET), (watched_by(SQUARE, "abc"), SQUARE),
                           (watched_by(SQUARE, "abd"), SQUARE)]:
            rows = within(one, other)[1]
            more = [{way: Fraction(3, 2) * number for way, number in made_of_none.items()} for made_of_none in dependences(one)]
            changed = tuple(joined(row, draw.choice(more)) for row in rows)
            self.check_right(shows_within, one, other, ("within", changed))
            for at in range(0, len(rows), 3):
                self.check_right(shows_within, one, other, ("within", rows[:at] + changed[at:at + 1] + rows[at + 1:]))
                for row in (changed[at][1:], changed[at][:-1], changed[at][::-1], changed[at] + changed[at][-1:], ()):
                    self.check_wrong(shows_within, one, other, ("within", rows[:at] + (row,) + rows[at + 1:]))
            if alike(one, other)[0] == "alike":
                self.check_right(shows_alike, one, other, ("alike", changed, within(other, one)[1]))
                self.check_right(shows_alike, other, one, ("alike", within(other, one)[1], changed))

    def test_rows_out_twice_exchanged(self):
        for one, other in ((HOUSE_NET, FEWER), (MORE, HOUSE_NET), (STAR_NET, STAR_NET)):
            rows = within(one, other)[1]
            for some in (rows[1:], rows[:-1], rows + rows[:1], rows[:1] + rows, rows[::-1], rows[1:] + rows[:1], (), rows + rows,
                         list(rows), rows + ((),), (rows,), rows[0]):
                self.check_wrong(shows_within, one, other, ("within", some))

    def test_signed_ways_of_the_other_net(self):
        # Right ways, but the net that is to tell has none of them.
        one, other = watched_by(SQUARE, "abc"), watched_by(SQUARE, "bcd")
        self.check_wrong(shows_within, one, other, ("within", tuple(((way, (1, 1)),) for way in ways(other))))
        self.check_right(shows_within, other, other, ("within", tuple(((way, (1, 1)),) for way in ways(other))))
        value = alike(one, other)
        self.check_wrong(shows_alike, one, other, ("alike", value[2], value[1]))
        self.check_wrong(shows_alike, other, one, value)
        self.check_right(shows_alike, other, one, ("alike", value[2], value[1]))

    def test_any_two_costs(self):
        draw = random.Random("costs")
        for one, other in some_pairs("costs"):
            rows = hidden(one)
            for _ in range(3):
                numbers = [draw.choice([0, 1, -2, Fraction(1, 3)]) for _ in rows]
                moved = [sum(number * row[at] for number, row in zip(numbers, rows)) for at in range(len(one))]
                moved[draw.randrange(len(one))] += draw.choice([0, 0, 1])
                costs = costs_of(*[Fraction(draw.randint(-9, 9), draw.randint(1, 4)) for _ in one.ties])
                others = costs_of(*[number_of(cost) + move for cost, move in zip(costs, moved)])
                seen = [plain_sums(net, costs) != plain_sums(net, others) for net in (one, other)]
                self.assertIs(shows_within(one, other, ("parts", costs, others)), seen == [False, True])
                self.assertIs(shows_alike(one, other, ("parts", 0, costs, others)), seen == [False, True])
                self.assertIs(shows_alike(one, other, ("parts", 1, others, costs)), seen == [True, False])

    def test_costs_that_are_alike_or_exchanged(self):
        word, costs, others = within(FEWER, HOUSE_NET)
        self.check_right(shows_within, FEWER, HOUSE_NET, ("parts", others, costs))
        for value in (("parts", costs, costs), ("parts", others, others), ("parts", costs[1:], others[1:]), ("parts", (), ()),
                      ("parts", costs + costs[:1], others + costs[:1]), ("parts", costs, others[1:])):
            self.check_wrong(shows_within, FEWER, HOUSE_NET, value)
        self.check_wrong(shows_within, HOUSE_NET, FEWER, ("parts", costs, others))
        self.check_wrong(shows_within, HOUSE_NET, HOUSE_NET, ("parts", costs, others))

    def test_numbers(self):
        costs, others = within(FEWER, HOUSE_NET)[1:]
        for number in (0, 1, 2, -1, False, True, None, "0", (0,), [1]):
            right = not isinstance(number, bool)
            self.assertIs(shows_alike(FEWER, HOUSE_NET, ("parts", number, costs, others)), right and number == 0)
            self.assertIs(shows_alike(HOUSE_NET, FEWER, ("parts", number, costs, others)), right and number == 1)

    def test_another_form(self):
        self.check_spoiled(shows_within, STAR_NET, STAR_NET, within(STAR_NET, STAR_NET))
        self.check_spoiled(shows_within, FEWER, HOUSE_NET, within(FEWER, HOUSE_NET))
        self.check_spoiled(shows_alike, FEWER, HOUSE_NET, alike(FEWER, HOUSE_NET))
        self.check_spoiled(shows_alike, HOUSE_NET, FEWER, alike(HOUSE_NET, FEWER))
        self.check_spoiled(shows_alike, STAR_NET, STAR_NET, alike(STAR_NET, STAR_NET))

    def test_words_exchanged(self):
        same, parts = within(STAR_NET, STAR_NET), within(FEWER, HOUSE_NET)
        for word in ("alike", "parts", "told", "", None, 0, True, ("within",)):
            self.check_wrong(shows_within, STAR_NET, STAR_NET, (word, *same[1:]))
            self.check_wrong(shows_alike, STAR_NET, STAR_NET, ("within" if word == "alike" else word, *alike(STAR_NET, STAR_NET)[1:]))
        for word in ("alike", "within", "told", "", None, 0, True, ("parts",)):
            self.check_wrong(shows_within, FEWER, HOUSE_NET, (word, *parts[1:]))
        self.check_wrong(shows_alike, STAR_NET, STAR_NET, same)
        self.check_wrong(shows_alike, FEWER, HOUSE_NET, parts)
        self.check_wrong(shows_within, FEWER, HOUSE_NET, alike(FEWER, HOUSE_NET))

    def test_values_of_any_kind(self):
        costs = within(FEWER, HOUSE_NET)[1]
        for value in any_values():
            for shown in (value, ("within", value), ("within", (value,) * 9), ("parts", value, costs), ("parts", costs, value),
                          ("alike", value, value), ("parts", value, costs, costs), ("parts", 0, value, value), (value,),
                          ("within", ((),) * 8 + (value,)), (value, value), (value, costs, costs)):
                self.check_wrong(shows_within, FEWER, HOUSE_NET, shown)
                self.check_wrong(shows_alike, FEWER, HOUSE_NET, shown)


def others_of(net):
    """Values that are no nets with the same places and ties as the net, in the same sequence."""
    found = any_values() + [net.text, net.places, net.ties, [net], (net,), {"net": net}, STAR_NET.with_tie("a", "b"), RING]
    found += [net_of(net.places, net.watchers, net.ties[::-1]), net_of(net.places, net.watchers, net.ties[1:])]
    found.append(net_of(net.places, net.watchers, net.ties[1:] + net.ties[:1]))
    found.append(net_of(net.places + ("zz",), net.watchers, net.ties))
    turned = net.places[::-1]
    found.append(net_of(turned, net.watchers[::-1], [tie[::-1] for tie in net.ties]))
    moved = net.places[1:] + net.places[:1]
    watchers = [place for place in moved if place in net.watchers]
    found.append(net_of(moved, watchers, [tuple(sorted(tie, key=moved.index)) for tie in net.ties]))
    by = dict(zip(net.places, ("q", "rr", "s", "t", "u")))
    found.append(net_of(by.values(), [by[one] for one in net.watchers], [(by[one], by[other]) for one, other in net.ties]))
    return [value for value in found if value != net]


class WrongArguments(Checks):

    def test_other_ties(self):
        for net in (STAR_NET, HOUSE_NET, CHAIN):
            for value in others_of(net):
                for tell in (within, alike):
                    self.assertIs(raised(OtherTies, tell, net, value), value)
                for shows in (shows_within, shows_alike):
                    for shown in (None, within(net, net), alike(net, net)):
                        self.assertIs(raised(OtherTies, shows, net, value, shown), value)

    def test_whatever_is_to_be_shown(self):
        for value in any_values():
            self.assertIs(raised(OtherTies, shows_within, STAR_NET, HOUSE_NET, value), HOUSE_NET)
            self.assertIs(raised(OtherTies, shows_alike, STAR_NET, None, value), None)

    def test_places_that_no_tie_meets_count(self):
        one, other = net_of("abc", "ab", "ab"), net_of("abd", "ab", "ab")
        self.assertIs(raised(OtherTies, within, one, other), other)
        self.assertIs(raised(OtherTies, alike, other, one), one)

    def test_what_is_handed_in_stays(self):
        for value in (["within", [[]]], ("within", [[(("a", "m"), [1, 1])]]), {"a": [1]}):
            before = copy.deepcopy(value)
            self.check_wrong(shows_within, STAR_NET, STAR_NET, value)
            self.check_wrong(shows_alike, STAR_NET, STAR_NET, value)
            self.check(value, before)
        self.check((STAR_NET.text, STAR_NET.ties), (STAR, Net(STAR).ties))


class Calls(Checks):

    def test_by_names(self):
        self.check(within(other=FEWER, one=HOUSE_NET), within(HOUSE_NET, FEWER))
        self.check(alike(other=FEWER, one=HOUSE_NET), alike(HOUSE_NET, FEWER))
        self.check_right(lambda value: shows_within(value=value, other=FEWER, one=HOUSE_NET), within(HOUSE_NET, FEWER))
        self.check_right(lambda value: shows_alike(value=value, other=FEWER, one=HOUSE_NET), alike(HOUSE_NET, FEWER))

    def test_equal_calls(self):
        for one, other in some_pairs("equal"):
            again = Net(one.text), Net(other.text)
            for tell in (within, alike):
                self.check(tell(one, other), tell(*again))
                self.check(tell(one, other), tell(one, other))
            self.assertEqual((one, other), again)

    def test_time(self):
        start = time.monotonic()
        for one, other in itertools.permutations([FULL, watched_by(FULL, "abc"), watched_by(FULL, "defgh"), *BOUNDS[1:2]], 2):
            if one.ties == other.ties:
                self.check_right(shows_within, one, other, within(one, other))
                self.check_right(shows_alike, one, other, alike(one, other))
        self.assertLess(time.monotonic() - start, 10)


if __name__ == "__main__":
    unittest.main()

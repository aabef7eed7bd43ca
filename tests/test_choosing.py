"""Point 13: the cheapest changes, held against a plain look at all choices."""

import copy
import itertools
import random
import time
import unittest
from fractions import Fraction

from plain import (costs_of, dependences, drawn_nets, hidden, is_made, joined, made, net_of, number_of, pair_of, plain_sums,
                   plain_ways, unit)
from samples import BOUNDS, FULL, HOUSE, RING, STAR, Checks, any_values, is_ascending, raised, same
from tiesums.choosing import cheapest, shows_cheapest
from tiesums.errors import BadOffers, BadWishes
from tiesums.nets import Net
from tiesums.told import tie_told, whole

HOUSE_NET, STAR_NET = Net(HOUSE), Net(STAR)
TIE, WATCH = ("tie", "c", "p", 2), ("watch", "p", 3)
OFFERS = (TIE, WATCH)
# Two places that hang in between a and b, side by side: each needs a tie or a watcher of its own.
TWICE = net_of("abcpq", "abc", "ab bc ac ap bp aq bq")
FOUR = (("tie", "c", "p", 2), ("tie", "c", "q", 1), ("watch", "p", 3), ("watch", "q", 4))


def all_offers(net, price):
    """All offers for the net, each at what price tells."""
    ties = [("tie", *pair, price()) for pair in itertools.combinations(net.places, 2) if pair not in net.ties]
    return ties + [("watch", place, price()) for place in net.places if place not in net.watchers]


def some_cases(seed, count=40, prices=4):
    draw = random.Random(seed)
    for net in [STAR_NET, HOUSE_NET, TWICE, RING, *drawn_nets(seed, count, most=6)]:
        pool = all_offers(net, lambda: draw.randint(1, prices))
        if pool:
            offers = tuple(sorted(draw.sample(pool, draw.randint(1, min(4, len(pool))))))
            yield net, offers, tuple(sorted(draw.sample(range(len(net)), draw.randint(1, min(3, len(net))))))


def by(net, choice):
    """The net by the choice, put together anew."""
    watchers = [place for place in net.places if place in net.watchers or place in [one[1] for one in choice if one[0] == "watch"]]
    return net_of(net.places, watchers, net.ties + tuple(one[1:3] for one in choice if one[0] == "tie"))


def plain_choices(net, offers):
    """All choices that count, in sequence."""
    found = [some for many in range(len(offers) + 1) for some in itertools.combinations(offers, many)
             if len(net.ties) + sum(one[0] == "tie" for one in some) <= 14]
    return sorted(found, key=lambda some: (sum(one[-1] for one in some), len(some), some))


def is_enough(net, choice, wishes):
    other = by(net, choice)
    return all(is_made(other, unit(other, wish)) for wish in wishes)


class Results(Checks):

    def check_signed(self, net, signed, weights):
        self.assertIs(type(signed), tuple)
        self.assertTrue(is_ascending([row[0] for row in signed]))
        for row in signed:
            self.check((type(row), len(row)), (tuple, 2))
            self.assertIn(row[0], plain_ways(net))
            self.check(row[1], pair_of(number_of(row[1])))
            self.assertNotEqual(row[1], (0, 1))
        self.check(made(net, signed), weights)

    def check_reasons(self, net, wishes, ahead, reasons):
        self.check((type(reasons), len(reasons)), (tuple, len(ahead)))
        for choice, reason in zip(ahead, reasons):
            self.check((type(reason), len(reason)), (tuple, 4))
            self.check(reason[0], choice)
            self.assertIn(reason[1], wishes)
            self.assertIs(type(reason[1]), int)
            other = by(net, choice)
            for costs in reason[2:]:
                self.check(costs, tuple(pair_of(number_of(one)) for one in costs))
                self.assertEqual(len(costs), len(other.ties))
            self.assertEqual(plain_sums(other, reason[2]), plain_sums(other, reason[3]))
            self.assertNotEqual(reason[2][reason[1]], reason[3][reason[1]])

    def check_cheapest(self, net, offers, wishes):
        value = cheapest(net, offers, wishes)
        self.assertIs(type(value), tuple)
        ahead = []
        for choice in plain_choices(net, offers):
            if is_enough(net, choice, wishes):
                self.check((len(value), *value[:3]), (5, "choice", sum(one[-1] for one in choice), choice))
                self.check((type(value[3]), len(value[3])), (tuple, len(wishes)))
                for wish, signed in zip(wishes, value[3]):
                    self.check_signed(by(net, choice), signed, unit(by(net, choice), wish))
                self.check_reasons(net, wishes, ahead, value[4])
                break
            ahead.append(choice)
        else:
            self.check((len(value), value[0]), (2, "none"))
            self.check_reasons(net, wishes, ahead, value[1])
        self.check_right(shows_cheapest, net, offers, wishes, value)
        return value


class Cheapest(Results):

    def test_against_a_plain_look_at_all_choices(self):
        kinds = {self.check_cheapest(*case)[0] for case in some_cases("cheapest", 80)}
        self.assertEqual(kinds, {"choice", "none"})

    def test_choices_of_the_same_price(self):
        for case in some_cases("same price", 40, prices=1):
            self.check_cheapest(*case)
        for case in some_cases("like prices", 40, prices=2):
            self.check_cheapest(*case)

    def test_house(self):
        self.check(self.check_cheapest(HOUSE_NET, OFFERS, (3, 4))[:3], ("choice", 2, (TIE,)))
        self.check(self.check_cheapest(HOUSE_NET, (WATCH,), (3,))[:3], ("choice", 3, (WATCH,)))
        cheaper = (("tie", "c", "p", 4), WATCH)
        self.check(self.check_cheapest(HOUSE_NET, cheaper, (4,))[:3], ("choice", 3, (WATCH,)))
        # The same price, one offer each: the tie stands ahead as a tuple.
        alike = (("tie", "c", "p", 3), WATCH)
        self.check(self.check_cheapest(HOUSE_NET, alike, (4,))[:3], ("choice", 3, alike[:1]))

    def test_nothing_is_enough_as_it_is(self):
        self.check(self.check_cheapest(HOUSE_NET, OFFERS, (0, 1, 2))[:3], ("choice", 0, ()))
        self.check(self.check_cheapest(STAR_NET, (("watch", "m", 1),), (0, 1, 2))[:3], ("choice", 0, ()))
        self.check(cheapest(HOUSE_NET, OFFERS, (0,))[4], ())

    def test_none_is_enough(self):
        value = self.check_cheapest(TWICE, FOUR[:1] + FOUR[2:3], (3, 5))
        self.check((value[0], [reason[0] for reason in value[1]]), ("none", [(), FOUR[:1], FOUR[2:3], (FOUR[0], FOUR[2])]))

    def test_several_offers_are_needed(self):
        self.check(self.check_cheapest(TWICE, FOUR, (3, 5))[:3], ("choice", 3, FOUR[:2]))
        self.check(self.check_cheapest(TWICE, FOUR, (3,))[:3], ("choice", 2, FOUR[:1]))
        self.check(self.check_cheapest(TWICE, FOUR, (6,))[:3], ("choice", 1, FOUR[1:2]))

    def test_fewer_offers_stand_ahead_at_the_same_price(self):
        # Two ties for 1 each, or one watcher for 2, who tells but half of it.
        offers = (("tie", "c", "p", 1), ("tie", "c", "q", 1), ("watch", "p", 2))
        value = self.check_cheapest(TWICE, offers, (3, 5))
        self.check([reason[0] for reason in value[4]], [(), offers[:1], offers[1:2], offers[2:]])
        self.check(value[:3], ("choice", 2, offers[:2]))
        value = self.check_cheapest(TWICE, offers, (3,))
        self.check(value[:3], ("choice", 1, offers[:1]))

    def test_prices(self):
        offers = (("tie", "c", "p", 99), ("watch", "p", 98))
        self.check(self.check_cheapest(HOUSE_NET, offers, (3,))[:2], ("choice", 98))
        offers = (("tie", "c", "p", 99), ("tie", "c", "q", 99), ("watch", "p", 99), ("watch", "q", 99))
        self.check(self.check_cheapest(TWICE, offers, (3, 5))[:3], ("choice", 198, offers[:2]))

    def test_choices_that_do_not_count(self):
        # Thirteen ties: just one of the ties that are offered can come.
        net = net_of("abcdefgh", "ab", "ac ad ae af ag ah bc bd be bf bg bh cd".split())
        offers = (("tie", "c", "e", 1), ("tie", "d", "e", 1), ("tie", "g", "h", 1), ("watch", "g", 5))
        value = self.check_cheapest(net, offers, (0, 12))
        self.check([reason[0] for reason in value[-1]], plain_choices(net, offers))
        self.assertEqual(len(value[-1]), 8)
        net = net.with_tie("c", "e")
        offers = (("tie", "d", "e", 1), ("tie", "g", "h", 2), ("watch", "d", 5), ("watch", "g", 9))
        value = self.check_cheapest(net, offers, tuple(range(14)))
        choices = [reason[0] for reason in value[1 if value[0] == "none" else 4]]
        self.assertFalse([choice for choice in choices if choice[:1] and choice[0][0] == "tie"])
        value = self.check_cheapest(net, offers[:2], tuple(range(14)))
        self.check((value[0], [reason[0] for reason in value[1]]), ("none", [()]))

    def test_a_new_tie_is_no_wish_but_has_weights(self):
        value = cheapest(HOUSE_NET, OFFERS, (3, 4))
        self.check(len(made(HOUSE_NET.with_tie("c", "p"), value[3][0])), 6)
        for number, value in enumerate(value[3], start=3):
            self.check(made(HOUSE_NET.with_tie("c", "p"), value), tuple((1, 1) if at == number else (0, 1) for at in range(6)))

    def test_it_is_what_tie_told_tells(self):
        for net, offers, wishes in some_cases("tells", 20):
            value = cheapest(net, offers, wishes)
            if value[0] == "choice":
                other = by(net, value[2])
                for wish in wishes:
                    self.check(tie_told(other, other.ties[wish])[0], "told")

    def test_time(self):
        start = time.monotonic()
        draw = random.Random("time")
        for net in BOUNDS[1:]:
            for many in (0, 1, 3):
                fewer = net_of(net.places, net.watchers, net.ties[many:])
                pool = all_offers(fewer, lambda: draw.randint(1, 99))
                for _ in range(3):
                    offers = tuple(sorted(draw.sample(pool, 4)))
                    for wishes in ((0,), tuple(range(len(fewer)))):
                        value = cheapest(fewer, offers, wishes)
                        self.check_right(shows_cheapest, fewer, offers, wishes, value)
        self.assertLess(time.monotonic() - start, 10)


class ShowsCheapest(Results):

    def spoil(self, net, offers, wishes, right, at, *others):
        for other in others:
            self.check_wrong(shows_cheapest, net, offers, wishes, right[:at] + (other,) + right[at + 1:])

    def test_other_costs_and_signed_ways(self):
        draw = random.Random("others")
        for net, offers, wishes in some_cases("others", 30):
            value = cheapest(net, offers, wishes)
            reasons = value[-1]
            for at, (choice, number, costs, others) in enumerate(reasons):
                other = by(net, choice)
                rows = hidden(other)
                for _ in range(3):
                    times = [draw.choice([0, 1, -3, Fraction(1, 2)]) for _ in rows]
                    moved = [sum(time * row[at] for time, row in zip(times, rows)) for at in range(len(other))]
                    one = [Fraction(draw.randint(-5, 5), 3) for _ in other.ties]
                    pair = costs_of(*one), costs_of(*[a + b for a, b in zip(one, moved)])
                    for wish in range(len(net)):
                        changed = reasons[:at] + ((choice, wish, *pair),) + reasons[at + 1:]
                        right = wish in wishes and moved[wish] != 0
                        self.assertIs(shows_cheapest(net, offers, wishes, value[:-1] + (changed,)), right)
            if value[0] == "choice":
                other = by(net, value[2])
                for one in dependences(other)[:3]:
                    rows = tuple(joined(row, one) for row in value[3])
                    self.check_right(shows_cheapest, net, offers, wishes, value[:3] + (rows, value[4]))
                    self.check_wrong(shows_cheapest, net, offers, wishes, value[:3] + (rows[:-1] + (rows[-1][1:],), value[4]))

    def test_other_prices_and_choices(self):
        value = cheapest(TWICE, FOUR, (3, 5))
        self.spoil(TWICE, FOUR, (3, 5), value, 1, 2, 4, 0, -3, "3", None, (3,), [3], True)
        choices = plain_choices(TWICE, FOUR)
        for choice in choices:
            price = sum(one[-1] for one in choice)
            for reasons in (value[4], value[4][:-1]):
                shown = ("choice", price, choice, value[3], reasons)
                self.assertIs(shows_cheapest(TWICE, FOUR, (3, 5), shown), shown == value)
        self.spoil(TWICE, FOUR, (3, 5), value, 2, FOUR[1::-1], list(FOUR[:2]), FOUR[:2] + FOUR[:1], (FOUR[0], list(FOUR[1])),
                   (FOUR[0],), FOUR, (("tie", "c", "p", 1), ("tie", "c", "q", 2)), (("tie", "c", "p", 2), ("tie", "q", "c", 1)))

    def test_a_later_choice_that_is_enough(self):
        offers = (TIE, WATCH)
        other = HOUSE_NET.with_watcher("p")
        rows = whole(other)[1][3:]
        value = cheapest(HOUSE_NET, offers, (3, 4))
        reasons = value[4] + ((value[2], 3, *value[4][0][2:]),)
        self.check_wrong(shows_cheapest, HOUSE_NET, offers, (3, 4), ("choice", 3, (WATCH,), rows, reasons))
        self.check_wrong(shows_cheapest, HOUSE_NET, offers, (3, 4), ("choice", 3, (WATCH,), rows, value[4]))
        self.check_right(shows_cheapest, HOUSE_NET, (WATCH,), (3, 4), ("choice", 3, (WATCH,), rows, value[4]))

    def test_prices_that_are_true(self):
        offers = (("tie", "c", "p", 1), ("watch", "p", 1))
        value = cheapest(HOUSE_NET, offers, (3, 4))
        self.check(value[:3], ("choice", 1, offers[:1]))
        self.spoil(HOUSE_NET, offers, (3, 4), value, 1, True)
        self.spoil(HOUSE_NET, offers, (3, 4), value, 2, (("tie", "c", "p", True),))
        self.spoil(HOUSE_NET, offers, (3, 4), value, 4, ((((True,),), *value[4][0][1:]),))
        more = cheapest(TWICE, (("tie", "c", "p", 1), ("watch", "p", 1)), (5,))
        for at in (1, 2):
            reason = more[1][at]
            wrong = ((reason[0][0][:-1] + (True,),), *reason[1:])
            self.spoil(TWICE, offers, (5,), more, 1, more[1][:at] + (wrong,) + more[1][at + 1:])
        # Numbers of wishes, too.
        net = net_of("abp", "ab", "ap bp")
        value = cheapest(net, (("watch", "p", 7),), (0, 1))
        reason = value[4][0]
        self.assertIn(reason[1], (0, 1))
        for number, right in ((0, True), (1, True), (False, False), (True, False), (2, False), ("0", False), (None, False)):
            self.assertIs(shows_cheapest(net, (("watch", "p", 7),), (0, 1), value[:4] + ((((), number, *reason[2:]),),)), right)

    def test_rows_and_reasons_out_twice_exchanged(self):
        for net, offers, wishes in ((TWICE, FOUR, (3, 5)), (HOUSE_NET, OFFERS, (3, 4)), (HOUSE_NET, OFFERS, (0, 1))):
            value = cheapest(net, offers, wishes)
            for at in (3, 4):
                rows = value[at]
                wrong = [rows + ((),), ((),) + rows, list(rows), (rows,), rows + rows[:1] if rows else None]
                wrong += [rows[1:], rows[:-1], rows[::-1] if len(rows) > 1 else None] if rows else []
                self.spoil(net, offers, wishes, value, at, *wrong)
        value = cheapest(TWICE, FOUR[:1] + FOUR[2:3], (3, 5))
        for rows in (value[1][1:], value[1][:-1], value[1][::-1], value[1] + value[1][:1], (), list(value[1])):
            self.check_wrong(shows_cheapest, TWICE, FOUR[:1] + FOUR[2:3], (3, 5), ("none", rows))

    def test_just_one_is_right(self):
        for net, offers, wishes in some_cases("one", 30):
            value = cheapest(net, offers, wishes)
            if value[0] == "choice":
                self.check_wrong(shows_cheapest, net, offers, wishes, ("none", value[4]))
                if offers:
                    self.check_wrong(shows_cheapest, net, offers, wishes, ("none", ()))
            else:
                for choice in plain_choices(net, offers):
                    price = sum(one[-1] for one in choice)
                    for rows in ((), ((),) * len(wishes)):
                        self.check_wrong(shows_cheapest, net, offers, wishes, ("choice", price, choice, rows, value[1]))

    def test_another_form(self):
        self.check_spoiled(shows_cheapest, HOUSE_NET, OFFERS, (3, 4), cheapest(HOUSE_NET, OFFERS, (3, 4)))
        self.check_spoiled(shows_cheapest, HOUSE_NET, OFFERS, (0,), cheapest(HOUSE_NET, OFFERS, (0,)))
        offers = FOUR[:1] + FOUR[2:3]
        self.check_spoiled(shows_cheapest, TWICE, offers, (5,), cheapest(TWICE, offers, (5,)))

    def test_values_of_any_kind(self):
        right = cheapest(HOUSE_NET, OFFERS, (3, 4))
        for value in any_values():
            for at in range(5):
                self.spoil(HOUSE_NET, OFFERS, (3, 4), right, at, value)
            for at in range(4):
                self.spoil(HOUSE_NET, OFFERS, (3, 4), right, 4, (right[4][0][:at] + (value,) + right[4][0][at + 1:],)
                           if not same(value, right[4][0][at]) else None)
            for shown in (value, ("none", value), ("none", (value,) * 4), ("none", ((value,) * 4,) * 4), (value, value), (value,),
                          (value,) * 5, right[:3] + ((value, value), right[4])):
                self.check_wrong(shows_cheapest, HOUSE_NET, OFFERS, (3, 4), shown)


def no_offers(net):
    """Values that are no offers for the house."""
    found = any_values() + [list(OFFERS), OFFERS[::-1], OFFERS + OFFERS, OFFERS[:1] * 2, OFFERS + OFFERS[:1], (OFFERS,), TIE, WATCH]
    found += [(TIE, ("tie", "c", "p", 3)), (("tie", "c", "p", 1), TIE, WATCH), (WATCH, ("watch", "p", 4)), dict.fromkeys(OFFERS)]
    for price in (0, 100, -1, 10 ** 12 - 1, True, False, None, "1", (1, 1), (1,), [1], []):
        found += [(("watch", "p", price),), (("tie", "c", "p", price),), (("tie", "c", "p", price), WATCH), (TIE, ("watch", "p", price))]
    for place in ("a", "b", "q", "", "P", 0, None, ("p",), ["p"], "pp"):
        found += [(("watch", place, 3),), (TIE, ("watch", place, 3))]
    for pair in (("a", "b"), ("b", "p"), ("p", "c"), ("c", "c"), ("p", "p"), ("c", "q"), ("q", "p"), ("c", ["p"]), ("c", None), (0, "p"),
                 ("b", "a"), ("", "p")):
        found += [(("tie", *pair, 2),), (("tie", *pair, 2), WATCH)]
    for offer in (("watch", "p"), ("watch", "p", 3, 3), ("watch", "c", "p", 3), ("tie", "c", "p"), ("tie", "p", 2), ("tie", ("c", "p"), 2),
                  ("tie", "c", "p", 2, 2), ("watcher", "p", 3), ("ties", "c", "p", 2), ("", "p", 3), (None, "p", 3), ("p", 3), (), None, 0,
                  ["watch", "p", 3], ["tie", "c", "p", 2], "watch p 3", ("watch", 3, "p"), (3, "p", "watch"), (("watch",), "p", 3),
                  (["watch"], "p", 3), ("tie", "c", "p", "2"), ("Watch", "p", 3)):
        found += [(offer,), OFFERS[:1] + (offer,)]
    return [value for value in found if not same(value, OFFERS)]


def no_wishes():
    found = any_values() + [(5,), (0, 5), (-1,), (-1, 0), (3, 3), (4, 3), (0, 1, 2, 3, 4, 5), [3, 4], [3], (True,), (False,), (0, True)]
    found += [(3, None), ("3",), (3, "4"), ((3,),), ((3, 4),), (3, (4,)), {3: 4}, (3, 4, 4), (0, 0), (False, 1), 3, "3", (10 ** 12 - 1,)]
    return [value for value in found if not same(value, (1,)) and not same(value, (1, 2, 3))]


class WrongArguments(Checks):

    def test_no_offers(self):
        for value in no_offers(HOUSE_NET):
            self.assertIs(raised(BadOffers, cheapest, HOUSE_NET, value, (3, 4)), value)
            self.assertIs(raised(BadOffers, shows_cheapest, HOUSE_NET, value, (3, 4), None), value)

    def test_how_many(self):
        pool = sorted(all_offers(TWICE, lambda: 1))
        self.assertGreater(len(pool), 4)
        for many in range(1, 5):
            cheapest(TWICE, tuple(pool[:many]), (0,))
        for many in (0, 5, len(pool)):
            value = tuple(pool[:many])
            self.assertIs(raised(BadOffers, cheapest, TWICE, value, (0,)), value)

    def test_offers_at_fourteen_ties(self):
        # Offers of ties are offers, though no choice of them counts.
        offers = (("tie", "a", "c", 1),)
        self.check(cheapest(FULL, offers, (0,))[:3], ("choice", 0, ()))

    def test_no_wishes(self):
        for value in no_wishes():
            self.assertIs(raised(BadWishes, cheapest, HOUSE_NET, OFFERS, value), value)
            self.assertIs(raised(BadWishes, shows_cheapest, HOUSE_NET, OFFERS, value, None), value)

    def test_wishes_are_ties_of_the_net_itself(self):
        self.check(raised(BadWishes, cheapest, HOUSE_NET, OFFERS, (5,)), (5,))

    def test_both(self):
        for value in no_offers(HOUSE_NET)[::3]:
            for wishes in no_wishes()[::3]:
                self.assertIs(raised(BadOffers, cheapest, HOUSE_NET, value, wishes), value)
                self.assertIs(raised(BadOffers, shows_cheapest, HOUSE_NET, value, wishes, None), value)

    def test_whatever_is_to_be_shown(self):
        right = cheapest(HOUSE_NET, OFFERS, (3, 4))
        for value in [*any_values(), right]:
            self.check(raised(BadOffers, shows_cheapest, HOUSE_NET, OFFERS[::-1], (3, 4), value), OFFERS[::-1])
            self.check(raised(BadWishes, shows_cheapest, HOUSE_NET, OFFERS, (4, 3), value), (4, 3))

    def test_what_is_handed_in_stays(self):
        for value in ([list(TIE), list(WATCH)], {"a": [1]}, ([list(TIE)],), ["choice", [0], [[]]]):
            before = copy.deepcopy(value)
            raised(BadOffers, cheapest, HOUSE_NET, value, (3,))
            raised(BadWishes, cheapest, HOUSE_NET, OFFERS, value)
            self.check_wrong(shows_cheapest, HOUSE_NET, OFFERS, (3,), value)
            self.check(value, before)
        cheapest(HOUSE_NET, OFFERS, (3, 4))
        self.check((HOUSE_NET.text, HOUSE_NET.watchers, HOUSE_NET.ties), (HOUSE, ("a", "b", "c"), Net(HOUSE).ties))


class Calls(Checks):

    def test_by_names(self):
        value = cheapest(HOUSE_NET, OFFERS, (3, 4))
        self.check(cheapest(wishes=(3, 4), offers=OFFERS, net=HOUSE_NET), value)
        self.check(cheapest(HOUSE_NET, wishes=(3, 4), offers=OFFERS), value)
        self.check_right(lambda value: shows_cheapest(value=value, wishes=(3, 4), net=HOUSE_NET, offers=OFFERS), value)

    def test_equal_calls(self):
        for net, offers, wishes in some_cases("equal", 20):
            again = Net(net.text)
            value = cheapest(net, offers, wishes)
            for one in (again, net):
                self.check(cheapest(one, tuple(list(offers)), tuple(list(wishes))), value)


if __name__ == "__main__":
    unittest.main()

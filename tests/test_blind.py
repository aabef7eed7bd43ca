"""Point 8: parts, their edges, blind parts, and the costs that nobody tells apart as a part is blind."""

import copy
import itertools
import random
import time
import unittest

from plain import (all_nets, costs_of, drawn_nets, lots_of, net_of, number_of, pair_of, plain_blind, plain_edge,
                   plain_parts, plain_sums)
from samples import (APART, BOUNDS, FIVE, FULL, HOUSE, NETS, RING, ROW, STAR, Checks, any_values, is_ascending, raised,
                     same)
from tiesums.blind import bent, blind, edge, parts, shows_bent, shows_blind
from tiesums.errors import BadPart, NotBlind
from tiesums.nets import Net

HOUSE_NET, STAR_NET = Net(HOUSE), Net(STAR)
CHEAP, DEAR = ((1, 1),) * 5, ((1, 1), (1, 1), (1, 1), (2, 1), (0, 1))
# Two watchers at one end, and behind them a part of three places that hangs on them by four ties.
HANGING = net_of("abcde", "ab", "ac bc bd cd ae de")
# Blind parts with an edge of one place (d; d and e; e) and of none (f and g).
TAIL = net_of("abcdefg", "abc", "ab bc ac cd de fg")


def some_nets(seed):
    return [*NETS, HANGING, TAIL, *all_nets(3), *itertools.islice(all_nets(4), 0, None, 5), *drawn_nets(seed, 60)]


def wrong_lots(net):
    """Values of any kind, and rows of places that are no lots: out of sequence, twice, empty, lists."""
    found = any_values() + [net, net.places, list(net.places), net.ties, net.text, (0,), (True,), ("q",), [], "a"]
    for lot in lots_of(net.places, 1):
        found += [list(lot), (lot,), [lot], lot + lot, lot + lot[:1], lot[:1] + lot, lot[::-1], "".join(lot), " ".join(lot)]
        found += [lot + ("q",), lot + (None,), ("",) + lot, tuple((place,) for place in lot), lot + (0,), dict(enumerate(lot))]
        found += [tuple(place.upper() for place in lot), lot[:-1] + ([lot[-1]],), lot + ([],), {place: True for place in lot}]
    return found


class Parts(Checks):

    def test_star(self):
        wanted = (("a",), ("a", "b", "c", "m"), ("a", "b", "m"), ("a", "c", "m"), ("a", "m"), ("b",), ("b", "c", "m"),
                  ("b", "m"), ("c",), ("c", "m"))
        self.check(parts(STAR_NET), wanted)

    def test_row_in_the_sequence_of_the_text(self):
        wanted = (("a",), ("b",), ("b", "a"), ("c",), ("c", "b"), ("c", "b", "a"), ("d",), ("d", "c"), ("d", "c", "b"),
                  ("d", "c", "b", "a"), ("e",), ("e", "d"), ("e", "d", "c"), ("e", "d", "c", "b"), ("e", "d", "c", "b", "a"))
        self.check(parts(ROW), wanted)

    def test_places_without_ties_are_none(self):
        self.check(parts(net_of("abc", "ab", "ac")), (("a",), ("a", "c"), ("c",)))
        self.check(parts(net_of("abcd", "ab", "ab cd")), (("a",), ("a", "b"), ("b",), ("c",), ("c", "d"), ("d",)))

    def test_three_places_outside_are_too_many(self):
        self.check([lot for lot in parts(STAR_NET) if "m" in lot and len(lot) == 1], [])
        self.check([lot for lot in parts(FIVE) if len(lot) < 3], [])
        self.assertEqual(len(parts(FIVE)), 10 + 5 + 1)

    def test_against_all_lots(self):
        for net in some_nets("parts"):
            found = parts(net)
            self.assertTrue(is_ascending(found))
            self.check(found, plain_parts(net))

    def test_who_watches_does_not_matter(self):
        self.check(parts(net_of("abcdefgh", "gh", FULL.ties)), parts(FULL))


class Edge(Checks):

    def test_some(self):
        self.check(edge(HOUSE_NET, ("p",)), ("a", "b"))
        self.check(edge(HOUSE_NET, ("a", "b", "c", "p")), ())
        self.check(edge(HOUSE_NET, ("a", "b", "c")), ("p",))
        self.check(edge(STAR_NET, ("a",)), ("m",))
        self.check(edge(ROW, ("c",)), ("d", "b"))
        self.check(edge(APART, ("a", "b", "c")), ())
        self.check(edge(TAIL, ("d",)), ("c", "e"))

    def test_each_part(self):
        for net in some_nets("edges"):
            for lot in plain_parts(net):
                self.check(edge(net, lot), plain_edge(net, lot))

    def test_lots_that_are_no_parts(self):
        for net in some_nets("no parts"):
            for lot in lots_of(net.places):
                if lot not in plain_parts(net):
                    self.assertIs(raised(BadPart, edge, net, lot), lot)

    def test_what_is_no_lot(self):
        for net in (STAR_NET, HOUSE_NET, ROW, TAIL, net_of("abc", "ab", "ac")):
            for value in wrong_lots(net):
                if not any(same(value, lot) for lot in plain_parts(net)):
                    self.assertIs(raised(BadPart, edge, net, value), value)

    def test_rows_of_places(self):
        for net in (STAR_NET, HOUSE_NET, net_of("abc", "ab", "ac")):
            for size in range(5):
                for row in itertools.product(net.places, repeat=size):
                    if row not in plain_parts(net):
                        self.assertIs(raised(BadPart, edge, net, row), row)


class Blind(Checks):

    def test_some(self):
        self.check(blind(HOUSE_NET), ("blind", ("p",), ("a", "b")))
        self.check(blind(STAR_NET), ("none",))
        self.check(blind(FIVE), ("none",))
        self.check(blind(net_of("abc", "ab", "ac")), ("blind", ("c",), ("a",)))
        self.check(blind(net_of("abc", "ab", "ab")), ("none",))
        self.check(blind(net_of("abcd", "ab", "ab cd"))[0], "blind")

    def test_against_all_lots(self):
        for net in some_nets("blind"):
            value, wanted = blind(net), plain_blind(net)
            self.check_right(shows_blind, net, value)
            if wanted:
                self.assertIn(value[1], wanted)
                self.check(value, ("blind", value[1], plain_edge(net, value[1])))
            else:
                self.check(value, ("none",))


class ShowsBlind(Checks):

    def test_each_lot(self):
        for net in some_nets("shows blind"):
            wanted = plain_blind(net)
            self.assertIs(shows_blind(net, ("none",)), wanted == ())
            for lot in lots_of(net.places):
                ends = plain_edge(net, lot)
                self.assertIs(shows_blind(net, ("blind", lot, ends)), lot in wanted)
                for other in (ends[1:], ends[:-1], ends[::-1], ends + ends[:1], lot, net.places):
                    if other != ends:
                        self.check_wrong(shows_blind, net, ("blind", lot, other))

    def test_another_form(self):
        self.check_spoiled(shows_blind, HOUSE_NET, ("blind", ("p",), ("a", "b")))
        self.check_spoiled(shows_blind, STAR_NET, ("none",))
        self.check_spoiled(shows_blind, TAIL, ("blind", ("d", "e"), ("c",)))
        self.check_spoiled(shows_blind, TAIL, ("blind", ("f", "g"), ()))

    def test_words(self):
        for word in ("none", "blind", "told", "", "BLIND", None, 0, True, ("none",), ["none"]):
            self.assertIs(shows_blind(STAR_NET, (word,)), word == "none")
            self.check_wrong(shows_blind, HOUSE_NET, (word,))
            self.assertIs(shows_blind(HOUSE_NET, (word, ("p",), ("a", "b"))), word == "blind")
            self.check_wrong(shows_blind, STAR_NET, (word, ("m",), ("a", "b", "c")))
        self.check_wrong(shows_blind, STAR_NET, "none")
        self.check_wrong(shows_blind, HOUSE_NET, ("blind", ("p",)))
        self.check_wrong(shows_blind, HOUSE_NET, ("blind", ("p",), "a", "b"))
        self.check_wrong(shows_blind, HOUSE_NET, (("p",), ("a", "b")))

    def test_what_is_no_lot(self):
        for net, lot in ((HOUSE_NET, ("p",)), (TAIL, ("d", "e")), (TAIL, ("f", "g"))):
            ends = plain_edge(net, lot)
            for value in wrong_lots(net):
                if not any(same(value, one) for one in plain_blind(net)):
                    self.check_wrong(shows_blind, net, ("blind", value, ends))
                if not same(value, ends):
                    self.check_wrong(shows_blind, net, ("blind", lot, value))

    def test_values_of_any_kind(self):
        for value in any_values():
            for shown in (value, (value,), ("none", value), (value, ("p",), ("a", "b")), ("blind", value, value)):
                self.check_wrong(shows_blind, HOUSE_NET, shown)
                self.check_wrong(shows_blind, STAR_NET, shown)


class Bent(Checks):

    def check_bent(self, net, lot, value):
        self.check((type(value), len(value)), (tuple, 2))
        for costs in value:
            self.check(costs, tuple(pair_of(number_of(one)) for one in costs))
            self.assertEqual(len(costs), len(net.ties))
        self.assertEqual(plain_sums(net, value[0]), plain_sums(net, value[1]))
        ends = plain_edge(net, lot)
        unlike = [one != other for one, other in zip(*value)]
        meet = [bool(set(tie) & set(lot)) for tie in net.ties]
        if len(ends) == 2:
            self.assertEqual(unlike, [bool(set(tie) & set(lot) and set(tie) & set(ends)) for tie in net.ties])
        else:
            self.assertTrue(any(unlike))
            self.assertTrue(all(one for one, other in zip(meet, unlike) if other))

    def test_each_blind_part(self):
        seen = set()
        for net in some_nets("bent"):
            for lot in plain_blind(net):
                value = bent(net, lot)
                self.check_bent(net, lot, value)
                self.check_right(shows_bent, net, lot, value)
                seen.add((min(len(net.watchers), 3), len(plain_edge(net, lot))))
        self.assertEqual(seen, {(watching, ends) for watching in (2, 3) for ends in (0, 1, 2)})

    def test_house(self):
        self.check_bent(HOUSE_NET, ("p",), bent(HOUSE_NET, ("p",)))

    def test_no_blind_part(self):
        for net in some_nets("not blind"):
            for lot in lots_of(net.places):
                if lot not in plain_blind(net):
                    self.assertIs(raised(NotBlind, bent, net, lot), lot)
                    self.assertIs(raised(NotBlind, shows_bent, net, lot, (CHEAP, DEAR)), lot)

    def test_what_is_no_lot(self):
        for net in (STAR_NET, HOUSE_NET, TAIL, HANGING, net_of("abc", "ab", "ac")):
            for value in wrong_lots(net):
                if not any(same(value, lot) for lot in plain_blind(net)):
                    self.assertIs(raised(NotBlind, bent, net, value), value)
                    self.assertIs(raised(NotBlind, shows_bent, net, value, (CHEAP, DEAR)), value)

    def test_whatever_is_to_be_shown(self):
        for value in any_values():
            self.check(raised(NotBlind, shows_bent, HOUSE_NET, ("a",), value), ("a",))
            self.check(raised(NotBlind, shows_bent, STAR_NET, ("m",), value), ("m",))


class ShowsBent(Checks):

    def shifted(self, draw, row):
        costs = [number_of((draw.randint(-9, 9), draw.randint(1, 5))) for _ in row]
        return costs_of(*costs), costs_of(*[one + other for one, other in zip(costs, row)])

    def test_edge_of_two_places(self):
        # All drawn differences are right just if each tie in costs more by one number and each tie out less by it.
        draw = random.Random("two")
        seen = {True: 0, False: 0}
        for net in [HOUSE_NET, HANGING, *drawn_nets("two", 60, least=4, most=6)]:
            for lot in [lot for lot in plain_blind(net) if len(plain_edge(net, lot)) == 2]:
                ends = plain_edge(net, lot)
                into = [[1 if set(tie) & set(lot) and end in tie else 0 for tie in net.ties] for end in ends]
                for more in (1, -1, 7, number_of((1, 3))):
                    row = [more * (one - other) for one, other in zip(*into)]
                    costs, others = self.shifted(draw, row)
                    self.check_right(shows_bent, net, lot, (costs, others))
                    self.check_right(shows_bent, net, lot, (others, costs))
                    for at in range(len(row)):
                        change = draw.choice([1, -1, -row[at] or 1])
                        wrong = self.shifted(draw, row[:at] + [row[at] + change] + row[at + 1:])
                        wanted = self.is_bent(net, lot, wrong)
                        seen[wanted] += 1
                        self.assertIs(shows_bent(net, lot, wrong), wanted)
        self.assertGreater(min(seen.values()), 5)

    def is_bent(self, net, lot, value):
        """Point 8, word for word."""
        ends, (costs, others) = plain_edge(net, lot), value
        if plain_sums(net, costs) != plain_sums(net, others):
            return False
        for tie, one, other in zip(net.ties, costs, others):
            between = bool(set(tie) & set(lot)) and bool(set(tie) & set(ends))
            if len(ends) == 2 and (one != other) != between:
                return False
            if len(ends) < 2 and one != other and not set(tie) & set(lot):
                return False
        return costs != others

    def test_all_small_differences(self):
        for net, lot in ((HOUSE_NET, ("p",)), (HANGING, ("c",)), (HANGING, ("c", "d")), (HANGING, ("c", "d", "e")),
                         (TAIL, ("d",)), (TAIL, ("e",)), (TAIL, ("d", "e")), (TAIL, ("f", "g")), (TAIL, ("g",))):
            right = 0
            if lot in plain_blind(net):
                for row in itertools.product((-1, 0, 1), repeat=len(net)):
                    value = (costs_of(*[0] * len(net)), costs_of(*row))
                    wanted = self.is_bent(net, lot, value)
                    right += wanted
                    self.assertIs(shows_bent(net, lot, value), wanted)
                self.assertGreater(right, 1)

    def test_edge_of_one_place_or_none(self):
        zero = costs_of(*[0] * 6)
        self.check_right(shows_bent, TAIL, ("d", "e"), (zero, costs_of(0, 0, 0, 5, 0, 0)))
        self.check_right(shows_bent, TAIL, ("d", "e"), (zero, costs_of(0, 0, 0, 0, "-1/2", 0)))
        self.check_right(shows_bent, TAIL, ("d", "e"), (zero, costs_of(0, 0, 0, 1, 1, 0)))
        self.check_wrong(shows_bent, TAIL, ("d", "e"), (zero, costs_of(0, 0, 0, 1, 0, 1)))
        self.check_wrong(shows_bent, TAIL, ("d", "e"), (zero, costs_of(1, 0, 0, 1, 0, 0)))
        self.check_wrong(shows_bent, TAIL, ("d", "e"), (zero, zero))
        self.check_right(shows_bent, TAIL, ("e",), (zero, costs_of(0, 0, 0, 0, 1, 0)))
        self.check_wrong(shows_bent, TAIL, ("e",), (zero, costs_of(0, 0, 0, 1, 0, 0)))
        self.check_right(shows_bent, TAIL, ("f", "g"), (zero, costs_of(0, 0, 0, 0, 0, 1)))
        self.check_wrong(shows_bent, TAIL, ("f", "g"), (zero, costs_of(0, 0, 0, 1, 0, 0)))
        # Between the places of its edge, too, no tie of a part like this is left alone.
        self.check_wrong(shows_bent, TAIL, ("d",), (zero, costs_of(0, 0, 0, 1, 0, 0)))
        self.check_right(shows_bent, TAIL, ("d",), (zero, costs_of(0, 0, 0, 1, -4, 0)))

    def test_ties_within_and_of_the_edge(self):
        zero = costs_of(*[0] * 6)
        net = net_of("abcde", "ab", "ac cd bd ad ab ae")
        self.check_right(shows_bent, net, ("c", "d"), (zero, costs_of(1, 0, -1, 1, 0, 0)))
        self.check_wrong(shows_bent, net, ("c", "d"), (zero, costs_of(1, 1, -1, 1, 0, 0)))
        self.check_wrong(shows_bent, net, ("c", "d"), (zero, costs_of(1, 0, -1, 1, 0, 1)))
        self.check_wrong(shows_bent, net, ("c", "d"), (zero, costs_of(0, 1, -1, 1, 0, 0)))
        self.check_wrong(shows_bent, net, ("c", "d"), (zero, costs_of(1, 0, -1, 1, 1, 0)))

    def test_alike_exchanged_longer_and_shorter(self):
        self.check_right(shows_bent, HOUSE_NET, ("p",), (CHEAP, DEAR))
        self.check_right(shows_bent, HOUSE_NET, ("p",), (DEAR, CHEAP))
        for value in ((CHEAP, CHEAP), (DEAR, DEAR), (CHEAP, DEAR, DEAR), (CHEAP,), (), (CHEAP[1:], DEAR[1:]),
                      (CHEAP[:-1], DEAR[:-1]), (CHEAP + CHEAP[:1], DEAR + CHEAP[:1]), ("alike", CHEAP, DEAR),
                      ("bent", (CHEAP, DEAR)), ((), ()), CHEAP, (CHEAP[:4], DEAR), (CHEAP, DEAR[:4])):
            self.check_wrong(shows_bent, HOUSE_NET, ("p",), value)

    def test_another_form(self):
        self.check_spoiled(shows_bent, HOUSE_NET, ("p",), (CHEAP, DEAR))
        self.check_spoiled(shows_bent, TAIL, ("f", "g"), bent(TAIL, ("f", "g")))

    def test_values_of_any_kind(self):
        for value in any_values():
            for shown in (value, (value,), (value, value), (CHEAP, value), (value, DEAR), (CHEAP, DEAR, value)):
                self.check_wrong(shows_bent, HOUSE_NET, ("p",), shown)

    def test_great_ones(self):
        big = [number_of((10 ** 50 + 1, 3 ** 70))] * 5
        more = number_of((10 ** 40, 7))
        value = costs_of(*big), costs_of(*big[:3], big[3] - more, big[4] + more)
        self.check_right(shows_bent, HOUSE_NET, ("p",), value)
        value = costs_of(*big), costs_of(*big[:3], big[3] - more, big[4] + more + number_of((1, 10 ** 40)))
        self.check_wrong(shows_bent, HOUSE_NET, ("p",), value)


class Calls(Checks):

    def test_by_names(self):
        house, lot = HOUSE_NET, ("p",)
        self.check(parts(net=house), parts(house))
        self.check(edge(lot=lot, net=house), ("a", "b"))
        self.check(edge(house, lot=lot), ("a", "b"))
        self.check(blind(net=house), blind(house))
        self.check_right(lambda value: shows_blind(value=value, net=house), blind(house))
        self.check(bent(lot=lot, net=house), bent(house, lot))
        self.check_right(lambda value: shows_bent(value=value, lot=lot, net=house), (CHEAP, DEAR))

    def test_equal_calls(self):
        for net in some_nets("equal"):
            again = Net(net.text)
            for tell in (parts, blind):
                self.check(tell(net), tell(again))
                self.check(tell(net), tell(net))
            for lot in parts(net):
                self.check(edge(net, lot), edge(again, tuple(list(lot))))
            for lot in plain_blind(net):
                self.check(bent(net, lot), bent(again, lot))
                self.check(bent(net, lot), bent(net, lot))
            self.assertEqual(net, again)

    def test_what_is_handed_in_stays(self):
        for value in (["p"], [["p"], ["a"]], {"p": ["a"]}, ("blind", ["p"], ["a", "b"]), ([(1, 1)] * 5, [])):
            before = copy.deepcopy(value)
            raised(BadPart, edge, HOUSE_NET, value)
            raised(NotBlind, bent, HOUSE_NET, value)
            self.check_wrong(shows_blind, HOUSE_NET, value)
            self.check_wrong(shows_bent, HOUSE_NET, ("p",), value)
            self.check(value, before)
        self.assertEqual(HOUSE_NET, Net(HOUSE))

    def test_time(self):
        start = time.monotonic()
        for net in BOUNDS:
            parts(net)
            self.check_right(shows_blind, net, blind(net))
            for lot in plain_blind(net):
                self.check_right(shows_bent, net, lot, bent(net, lot))
        self.assertLess(time.monotonic() - start, 10)


if __name__ == "__main__":
    unittest.main()

"""Point 7: shows_told, shows_tie_told, shows_whole and shows_base take just what is right, whoever made it."""

import itertools
import random
import unittest
from fractions import Fraction

from plain import (all_nets, costs_of, dependences, drawn_nets, hidden, is_made, joined, made, net_of, number_of,
                   pair_of, plain_rank, plain_row, plain_sure, plain_ways, rank, unit)
from samples import BOUNDS, FIVE, HOUSE, NETS, RING, STAR, Checks, any_values
from tiesums.nets import Net
from tiesums.told import (base, shows_base, shows_tie_told, shows_told, shows_whole, sure_ties, tie_told, told,
                          whole)

HOUSE_NET, STAR_NET = Net(HOUSE), Net(STAR)
CHEAP, DEAR = ((1, 1),) * 5, ((1, 1), (1, 1), (1, 1), (2, 1), (0, 1))
HALVES = ((("a", "m", "b"), (1, 2)), (("a", "m", "c"), (1, 2)), (("b", "m", "c"), (-1, 2)))


def times(number, signed):
    return {way: Fraction(number) * one for way, one in signed.items()}


def shifted(draw, net, row):
    """(costs, others): drawn costs, and those that differ by this row of numbers."""
    costs = [Fraction(draw.randint(-9, 9), draw.randint(1, 4)) for _ in net.ties]
    return costs_of(*costs), costs_of(*[one + other for one, other in zip(costs, row)])


class Told(Checks):

    def test_other_signed_ways(self):
        draw = random.Random("others")
        for net in [HOUSE_NET, FIVE, RING, *BOUNDS, *drawn_nets("others", 40, least=4, most=6)]:
            more = dependences(net)
            for number in sure_ties(net):
                signed = tie_told(net, net.ties[number])[1]
                for one in more[:3] + more[-1:]:
                    other = joined(signed, times(draw.choice(["1", "-2", "1/3", "123456789/7"]), one))
                    self.check_right(shows_told, net, unit(net, number), ("told", other))
                    self.check_right(shows_tie_told, net, net.ties[number], ("told", other))
                    if other:
                        self.check_wrong(shows_told, net, unit(net, number), ("told", other[1:]))
                        self.check_wrong(shows_tie_told, net, net.ties[number], ("told", other[:-1]))

    def test_all_ways_at_once(self):
        draw = random.Random("all")
        for net in NETS:
            signed = tuple((way, pair_of(f"{draw.randint(1, 99)}/{draw.randint(1, 9)}")) for way in plain_ways(net))
            weights = made(net, signed)
            self.check_right(shows_told, net, weights, ("told", signed))
            if signed:
                self.check_wrong(shows_told, net, weights, ("told", signed[1:]))
                self.check_wrong(shows_told, net, weights, ("told", signed[::-1] + signed[:1]))

    def test_nothing_is_made_of_nothing_and_of_what_ways_make_together(self):
        for net in NETS:
            weights = costs_of(*[0] * len(net))
            self.check_right(shows_told, net, weights, ("told", ()))
            self.check_wrong(shows_told, net, unit(net, 0), ("told", ()))
            for one in dependences(net)[:5]:
                self.check_right(shows_told, net, weights, ("told", joined(one)))

    def test_another_form(self):
        self.check_spoiled(shows_told, STAR_NET, unit(STAR_NET, 0), ("told", HALVES))
        self.check_spoiled(shows_tie_told, STAR_NET, ("a", "m"), ("told", HALVES))
        self.check_spoiled(shows_told, HOUSE_NET, unit(HOUSE_NET, 3), ("alike", CHEAP, DEAR))
        self.check_spoiled(shows_tie_told, HOUSE_NET, ("a", "p"), ("alike", CHEAP, DEAR))
        self.check_spoiled(shows_told, HOUSE_NET, costs_of(*[0] * 5), ("told", ()))

    def test_rows_out_twice_turned_about_out_of_sequence(self):
        for rows in itertools.product(HALVES, repeat=3):
            wanted = rows == HALVES
            self.assertIs(shows_tie_told(STAR_NET, ("a", "m"), ("told", rows)), wanted)
        for at in range(3):
            way, number = HALVES[at]
            turned = (way[::-1], number)
            quarter = (way, (number[0], 4))
            for rows in (HALVES[:at] + HALVES[at + 1:], HALVES[:at] + (HALVES[at],) + HALVES[at:],
                         HALVES[:at] + (turned,) + HALVES[at + 1:], HALVES[:at] + (quarter, quarter) + HALVES[at + 1:],
                         tuple(sorted(HALVES[:at] + (turned,) + HALVES[at + 1:]))):
                self.check_wrong(shows_tie_told, STAR_NET, ("a", "m"), ("told", rows))

    def test_numbers_of_zero(self):
        house, weights = HOUSE_NET, costs_of(1, 0, 0, 0, 0)
        self.check_right(shows_told, house, weights, ("told", ((("a", "b"), (1, 1)),)))
        for way in plain_ways(house):
            if way != ("a", "b"):
                rows = tuple(sorted([(("a", "b"), (1, 1)), (way, (0, 1))]))
                self.check_wrong(shows_told, house, weights, ("told", rows))
        self.check_wrong(shows_told, house, costs_of(*[0] * 5), ("told", ((("a", "b"), (0, 1)),)))

    def test_numbers_exchanged(self):
        for number in ((1, 2), (-1, 2), (1, 1), (2, 1), (1, 3), (0, 1), (2, 4), (-2, -4), (1, 0)):
            for at in range(3):
                rows = HALVES[:at] + ((HALVES[at][0], number),) + HALVES[at + 1:]
                self.assertIs(shows_tie_told(STAR_NET, ("a", "m"), ("told", rows)), number == HALVES[at][1])

    def test_of_another_input(self):
        self.check_wrong(shows_tie_told, STAR_NET, ("b", "m"), ("told", HALVES))
        self.check_wrong(shows_told, STAR_NET, costs_of(2, 0, 0), ("told", HALVES))
        self.check_wrong(shows_tie_told, STAR_NET.with_tie("a", "b"), ("b", "m"), ("told", HALVES))
        self.check_right(shows_tie_told, STAR_NET.with_tie("a", "b"), ("a", "m"), ("told", HALVES))
        self.check_wrong(shows_tie_told, STAR_NET.without_watcher("c"), ("a", "m"), ("told", HALVES))
        self.check_wrong(shows_tie_told, HOUSE_NET, ("a", "p"), ("told", HALVES))
        self.check_wrong(shows_tie_told, HOUSE_NET.with_watcher("p"), ("a", "p"), ("alike", CHEAP, DEAR))
        self.check_wrong(shows_tie_told, HOUSE_NET.with_tie("c", "p"), ("a", "p"), ("alike", CHEAP, DEAR))
        self.check_wrong(shows_tie_told, HOUSE_NET, ("a", "b"), ("alike", CHEAP, DEAR))

    def test_words(self):
        for word in ("told", "alike", "sure", "all", "not", "", "TOLD", "told ", None, True, 0, ("told",), ["told"]):
            self.assertIs(shows_tie_told(STAR_NET, ("a", "m"), (word, HALVES)), word == "told")
            self.assertIs(shows_tie_told(HOUSE_NET, ("a", "p"), (word, CHEAP, DEAR)), word == "alike")
            self.check_wrong(shows_tie_told, STAR_NET, ("a", "m"), (word, HALVES, HALVES))
            self.check_wrong(shows_tie_told, HOUSE_NET, ("a", "p"), (word, CHEAP))
            self.check_wrong(shows_tie_told, HOUSE_NET, ("a", "p"), (word, (CHEAP, DEAR)))
        self.check_wrong(shows_tie_told, HOUSE_NET, ("a", "p"), (CHEAP, DEAR))
        self.check_wrong(shows_tie_told, HOUSE_NET, ("a", "p"), ("alike", CHEAP, DEAR, DEAR))
        self.check_wrong(shows_tie_told, STAR_NET, ("a", "m"), HALVES)

    def test_values_of_any_kind(self):
        for value in any_values():
            for shown in (value, ("told", value), ("alike", value, value), ("alike", CHEAP, value), (value, HALVES),
                          ("alike", value, CHEAP), ("told", (value,)), ("told", ((value, (1, 1)),)),
                          ("told", ((("a", "b"), value),)), ("told", (value, value)), (value,), (value, value, value)):
                self.check_wrong(shows_told, HOUSE_NET, unit(HOUSE_NET, 0), shown)
                self.check_wrong(shows_tie_told, HOUSE_NET, ("a", "p"), shown)


class Alike(Checks):

    def test_any_costs_that_differ_by_what_no_way_shows(self):
        draw = random.Random("alike")
        for net in [HOUSE_NET, RING, *BOUNDS, *NETS, *drawn_nets("alike", 60, most=6)]:
            rows = hidden(net)
            for _ in range(4 if rows else 0):
                numbers = [draw.choice([-2, 0, 1, 7, Fraction(1, 3)]) for _ in rows]
                row = [sum(number * row[at] for number, row in zip(numbers, rows)) for at in range(len(net))]
                costs, others = shifted(draw, net, row)
                for number, one in enumerate(row):
                    self.assertIs(shows_tie_told(net, net.ties[number], ("alike", costs, others)), one != 0)
                    self.assertIs(shows_told(net, unit(net, number), ("alike", others, costs)), one != 0)
                weights = tuple(pair_of(draw.randint(-2, 2)) for _ in net.ties)
                unlike = sum(one * number_of(weight) for one, weight in zip(row, weights)) != 0
                self.assertIs(shows_told(net, weights, ("alike", costs, others)), unlike)

    def test_costs_that_some_way_tells_apart(self):
        draw = random.Random("apart")
        for net in [STAR_NET, HOUSE_NET, FIVE, *drawn_nets("apart", 40, most=6)]:
            for _ in range(4):
                row = [draw.choice([0, 0, 1, -1]) for _ in net.ties]
                costs, others = shifted(draw, net, row)
                seen = any(sum(one * other for one, other in zip(plain_row(net, way), row)) for way in plain_ways(net))
                for number, tie in enumerate(net.ties):
                    self.assertIs(shows_tie_told(net, tie, ("alike", costs, others)), not seen and row[number] != 0)

    def test_each_way_counts(self):
        # One tie dearer is seen by the ways along it alone, also if these stand last.
        for net in (STAR_NET, HOUSE_NET, RING, FIVE):
            for number in range(len(net)):
                row = [1 if at == number else 0 for at in range(len(net))]
                costs, others = shifted(random.Random(1), net, row)
                self.check_wrong(shows_tie_told, net, net.ties[number], ("alike", costs, others))

    def test_costs_that_are_alike(self):
        for costs in (CHEAP, DEAR):
            self.check_wrong(shows_tie_told, HOUSE_NET, ("a", "p"), ("alike", costs, costs))
            self.check_wrong(shows_told, HOUSE_NET, costs_of(0, 0, 0, 1, 1), ("alike", costs, costs))

    def test_exchanged(self):
        self.check_right(shows_tie_told, HOUSE_NET, ("a", "p"), ("alike", CHEAP, DEAR))
        self.check_right(shows_tie_told, HOUSE_NET, ("a", "p"), ("alike", DEAR, CHEAP))
        self.check_right(shows_tie_told, HOUSE_NET, ("b", "p"), ("alike", DEAR, CHEAP))
        self.check_wrong(shows_told, HOUSE_NET, costs_of(0, 0, 0, 1, 1), ("alike", CHEAP, DEAR))

    def test_longer_and_shorter(self):
        for costs, others in ((CHEAP[1:], DEAR[1:]), (CHEAP[:-1], DEAR[:-1]), (CHEAP + CHEAP[:1], DEAR + CHEAP[:1]),
                              (CHEAP, DEAR[1:]), (CHEAP[1:], DEAR), (CHEAP + CHEAP, DEAR + DEAR), ((), ()), (CHEAP, ())):
            self.check_wrong(shows_tie_told, HOUSE_NET, ("a", "p"), ("alike", costs, others))

    def test_what_is_told_has_none(self):
        draw = random.Random("none")
        for _ in range(200):
            costs, others = shifted(draw, STAR_NET, [draw.randint(-1, 1) for _ in range(3)])
            self.check_wrong(shows_tie_told, STAR_NET, ("a", "m"), ("alike", costs, others))

    def test_great_ones(self):
        big = costs_of(*[f"{10 ** 60 + number}/{7 ** 40}" for number in range(5)])
        more = [number_of(one) for one in big[3:]]
        others = big[:3] + costs_of(more[0] + 10 ** 50, more[1] - 10 ** 50)
        self.check_right(shows_tie_told, HOUSE_NET, ("a", "p"), ("alike", big, others))
        others = big[:3] + costs_of(more[0] + 10 ** 50, more[1] - 10 ** 50 + Fraction(1, 10 ** 50))
        self.check_wrong(shows_tie_told, HOUSE_NET, ("a", "p"), ("alike", big, others))


class Whole(Checks):

    def test_other_signed_ways(self):
        draw = random.Random("whole")
        nets = [net for net in [STAR_NET, FIVE, *BOUNDS, *drawn_nets("rows", 60, most=6)] if whole(net)[0] == "all"]
        self.assertGreater(len(nets), 10)
        for net in nets:
            rows = whole(net)[1]
            more = dependences(net) or [{}]
            for at in range(len(net)):
                other = joined(rows[at], times(draw.randint(1, 5), draw.choice(more)))
                self.check_right(shows_whole, net, ("all", rows[:at] + (other,) + rows[at + 1:]))
                self.check_wrong(shows_whole, net, ("all", rows[:at] + (other[1:],) + rows[at + 1:]))
                self.check_wrong(shows_whole, net, ("all", rows[:at] + (joined(rows[at], rows[at]),) + rows[at + 1:]))

    def test_rows_of_other_ties_out_or_twice(self):
        rows = whole(STAR_NET)[1]
        for some in itertools.product(rows, repeat=3):
            self.assertIs(shows_whole(STAR_NET, ("all", some)), some == rows)
        for some in (rows[1:], rows[:2], rows + rows[:1], rows + ((),), (), rows + rows):
            self.check_wrong(shows_whole, STAR_NET, ("all", some))

    def test_another_form(self):
        self.check_spoiled(shows_whole, STAR_NET, whole(STAR_NET))
        self.check_spoiled(shows_whole, HOUSE_NET, ("not", 3, CHEAP, DEAR))
        self.check_spoiled(shows_whole, net_of("abc", "ab", "ac"), ("not", 0, ((1, 1),), ((0, 1),)))
        self.check_spoiled(shows_whole, net_of("abc", "ab", "ab"), ("all", (((("a", "b"), (1, 1)),),)))

    def test_numbers(self):
        for number in (*range(-7, 9), True, False, None, "3", (3,), "a", 10 ** 11):
            self.assertIs(shows_whole(HOUSE_NET, ("not", number, CHEAP, DEAR)), number in (3, 4))
            self.assertIs(shows_whole(HOUSE_NET, ("not", number, DEAR, CHEAP)), number in (3, 4))
        net = net_of("abcd", "cd", "ab cd")
        for number in (0, 1, -1, -2, True, False):
            right = number == 0 and number is not False
            self.assertIs(shows_whole(net, ("not", number, costs_of(0, 0), costs_of(1, 0))), right)

    def test_any_tie_that_is_not_told(self):
        for net in [RING, *drawn_nets("not", 60, most=6), *all_nets(3)]:
            for number, tie in enumerate(net.ties):
                result = tie_told(net, tie)
                self.assertIs(shows_whole(net, ("not", number) + result[1:]), result[0] == "alike")
                if result[0] == "alike":
                    self.check_wrong(shows_whole, net, ("not", number, result[1], result[1]))

    def test_words(self):
        right, wrong = whole(STAR_NET), ("not", 3, CHEAP, DEAR)
        for word in ("all", "not", "told", "alike", "none", "", None, 0, True, ["all"]):
            self.assertIs(shows_whole(STAR_NET, (word, right[1])), word == "all")
            self.assertIs(shows_whole(HOUSE_NET, (word,) + wrong[1:]), word == "not")
        self.check_wrong(shows_whole, STAR_NET, ("all",) + right[1])
        self.check_wrong(shows_whole, HOUSE_NET, ("not", CHEAP, DEAR))
        self.check_wrong(shows_whole, HOUSE_NET, ("not", 3, CHEAP, DEAR, 3))
        self.check_wrong(shows_whole, HOUSE_NET, ("not", 3, (CHEAP, DEAR)))

    def test_of_another_net(self):
        self.check_wrong(shows_whole, HOUSE_NET, whole(STAR_NET))
        self.check_wrong(shows_whole, STAR_NET, whole(HOUSE_NET))
        self.check_wrong(shows_whole, HOUSE_NET.with_watcher("p"), ("not", 3, CHEAP, DEAR))
        self.check_wrong(shows_whole, STAR_NET.without_watcher("c"), whole(STAR_NET))

    def test_values_of_any_kind(self):
        for value in any_values():
            for net in (STAR_NET, HOUSE_NET):
                for shown in (value, ("all", value), ("all", (value,) * len(net)), ("not", value, CHEAP, DEAR),
                              ("not", 3, value, DEAR), ("not", 3, CHEAP, value), (value, ()), (value, 3, CHEAP, DEAR)):
                    self.check_wrong(shows_whole, net, shown)


class Base(Checks):

    def test_all_lots_of_ways(self):
        for net in [STAR_NET, HOUSE_NET, RING, net_of("abc", "ab", "ac"), *all_nets(3), *drawn_nets("lots", 20, 4, 4)]:
            found, wanted = plain_ways(net), plain_rank(net)
            for size in range(min(wanted + 1, len(found)) + 1):
                for some in itertools.islice(itertools.combinations(found, size), 300):
                    right = size == wanted and rank([plain_row(net, way) for way in some]) == wanted
                    self.assertIs(shows_base(net, some), right)

    def test_drawn_ways(self):
        draw = random.Random("base")
        for net in [FIVE, *BOUNDS]:
            found, wanted = list(plain_ways(net)), plain_rank(net)
            for _ in range(20):
                some = []
                for way in draw.sample(found, len(found)):
                    if rank([plain_row(net, one) for one in some + [way]]) > len(some):
                        some.append(way)
                    if len(some) == wanted:
                        break
                self.check_right(shows_base, net, tuple(sorted(some)))
                self.check_wrong(shows_base, net, tuple(sorted(some, reverse=True)))
                self.check_wrong(shows_base, net, tuple(sorted(some))[1:])
                self.check_wrong(shows_base, net, tuple(sorted(set(some) | {way for way in found if way not in some})))

    def test_sequence(self):
        right = base(STAR_NET)
        for some in itertools.product(right, repeat=3):
            self.assertIs(shows_base(STAR_NET, some), some == right)

    def test_another_form(self):
        for net in (STAR_NET, HOUSE_NET, net_of("abc", "ab", "ac")):
            self.check_spoiled(shows_base, net, base(net))

    def test_ways_that_are_none(self):
        right = base(HOUSE_NET)
        for at in range(len(right)):
            for way in (right[at][::-1], ("a", "p"), ("a", "p", "c"), ("a", "b", "a"), (), ("a",), list(right[at])):
                self.check_wrong(shows_base, HOUSE_NET, right[:at] + (way,) + right[at + 1:])

    def test_of_another_net(self):
        self.check_wrong(shows_base, HOUSE_NET, base(STAR_NET))
        self.check_wrong(shows_base, STAR_NET, base(HOUSE_NET))
        self.check_wrong(shows_base, HOUSE_NET.with_watcher("p"), base(HOUSE_NET))
        self.check_wrong(shows_base, HOUSE_NET.without_watcher("b"), base(HOUSE_NET))
        self.check_wrong(shows_base, STAR_NET, ())

    def test_values_of_any_kind(self):
        for value in any_values():
            for shown in (value, (value,), (value,) * 3, base(STAR_NET)[:2] + (value,), (value,) + base(STAR_NET)[1:],
                          ("base", value)):
                if shown != base(STAR_NET):
                    self.check_wrong(shows_base, STAR_NET, shown)


class OneOfBoth(Checks):

    def test_just_one_is_right(self):
        draw = random.Random("both")
        for net in [*NETS, *drawn_nets("both", 30, most=6)]:
            for _ in range(4):
                weights = tuple(pair_of(draw.randint(-1, 1)) for _ in net.ties)
                self.assertEqual(told(net, weights)[0], "told" if is_made(net, weights) else "alike")
            self.assertEqual(whole(net)[0], "all" if len(plain_sure(net)) == len(net) else "not")


if __name__ == "__main__":
    unittest.main()

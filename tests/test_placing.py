"""Point 9: who has to watch at least, with reasons, and what one watcher more would tell."""

import copy
import functools
import itertools
import random
import time
import unittest

from plain import all_nets, drawn_nets, lots_of, net_of, plain_parts, plain_sure, watched_by
from samples import APART, BOUNDS, FIVE, FULL, HOUSE, NETS, RING, ROW, STAR, Checks, any_values, is_ascending
from tiesums.nets import Net
from tiesums.placing import gains, least, shows_least
from tiesums.told import sure_ties, whole

HOUSE_NET, STAR_NET = Net(HOUSE), Net(STAR)
TRIANGLE = net_of("abc", "ab", "ab bc ac")


def some_nets(seed):
    return [*NETS, TRIANGLE, *itertools.islice(all_nets(3), 0, None, 4), *itertools.islice(all_nets(4), 0, None, 23),
            *drawn_nets(seed, 30, most=6)]


def is_enough(net, lot):
    """Whether all ties are told if just these places watch."""
    return len(lot) >= 2 and len(plain_sure(watched_by(net, lot))) == len(net.ties)


def fewest(net):
    """All lots of as few places as can be that are enough."""
    return _fewest(net.text)


@functools.lru_cache(maxsize=None)
def _fewest(text):
    net = Net(text)
    for size in range(2, len(net.places) + 1):
        found = [lot for lot in itertools.combinations(net.places, size) if is_enough(net, lot)]
        if found:
            return found
    raise AssertionError("not even all places are enough")


def missed(net, lot):
    return [part for part in plain_parts(net) if not set(part) & set(lot)]


def result_by(net, lot, choose):
    """What least may tell with this lot, each part chosen among all that are right."""
    lesser = sorted(itertools.combinations(net.places, len(lot) - 1))
    return (lot, tuple((other, choose(missed(net, other))) for other in lesser))


class Least(Checks):

    def check_least(self, net, value):
        self.check((type(value), len(value), type(value[0]), type(value[1])), (tuple, 2, tuple, tuple))
        lot, reasons = value
        self.assertIn(lot, fewest(net))
        self.check(tuple(other for other, part in reasons), tuple(sorted(itertools.combinations(net.places, len(lot) - 1))))
        for reason in reasons:
            self.check((type(reason), len(reason)), (tuple, 2))
            self.assertIn(reason[1], missed(net, reason[0]))

    def test_nets(self):
        for net in some_nets("least"):
            value = least(net)
            self.check_least(net, value)
            self.check_right(shows_least, net, value)

    def test_house(self):
        value = least(HOUSE_NET)
        self.check_least(HOUSE_NET, value)
        self.assertEqual((len(value[0]), len(value[1])), (3, 6))
        self.assertIn("p", value[0])

    def test_one_tie(self):
        # Only its ends can be enough, and each single place leaves one of them unwatched.
        net = net_of("abc", "ab", "bc")
        value = least(net)
        self.check(value[0], ("b", "c"))
        self.check(value[1][1:], ((("b",), ("c",)), (("c",), ("b",))))
        self.assertIn(value[1][0], [(("a",), part) for part in (("b",), ("b", "c"), ("c",))])

    def test_reasons_ascend_by_letters_and_lots_stand_in_sequence(self):
        value = least(net_of("zab", "zb", "zb"))
        self.check(value[0], ("z", "b"))
        self.check([other for other, part in value[1]], [("a",), ("b",), ("z",)])
        value = least(ROW)
        self.check(value[0], ("e", "d", "c", "b", "a"))
        self.check([other for other, part in value[1]],
                   [("d", "c", "b", "a"), ("e", "c", "b", "a"), ("e", "d", "b", "a"), ("e", "d", "c", "a"), ("e", "d", "c", "b")])

    def test_all_are_told_if_just_these_watch(self):
        for net in [*some_nets("these"), *drawn_nets("great", 20, least=7)]:
            lot, reasons = least(net)
            self.check(whole(watched_by(net, lot))[0], "all")
            for other, part in reasons:
                if len(other) > 1:
                    self.check(whole(watched_by(net, other))[0], "not")

    def test_who_watches_now_does_not_matter(self):
        for net in (HOUSE_NET, RING, *drawn_nets("now", 10, most=6)):
            for lot in lots_of(net.places, 2):
                self.check(least(watched_by(net, lot)), least(net))

    def test_time(self):
        start = time.monotonic()
        for net in BOUNDS:
            self.check_right(shows_least, net, least(net))
            gains(net)
        self.assertLess(time.monotonic() - start, 10)


class ShowsLeast(Checks):

    def test_each_lot_with_each_reason(self):
        draw = random.Random("reasons")
        for net in [*NETS[:6], TRIANGLE, *drawn_nets("shows", 25, most=6)]:
            wanted = fewest(net)
            for lot in lots_of(net.places, 1):
                if all(missed(net, other) for other in itertools.combinations(net.places, len(lot) - 1)):
                    for choose in (min, max, draw.choice):
                        self.assertIs(shows_least(net, result_by(net, lot, choose)), lot in wanted)

    def test_lots_of_more_places(self):
        # Their reasons would have to speak of lots that leave no part unwatched.
        for net in (STAR_NET, HOUSE_NET, TRIANGLE, FIVE):
            for lot in lots_of(net.places, len(least(net)[0]) + 1):
                lesser = sorted(itertools.combinations(net.places, len(lot) - 1))
                for part in plain_parts(net)[:3]:
                    self.check_wrong(shows_least, net, (lot, tuple((other, part) for other in lesser)))
                self.check_wrong(shows_least, net, (lot, least(net)[1]))
                self.check_wrong(shows_least, net, (lot, ()))

    def test_reasons_out_twice_exchanged(self):
        for net in (STAR_NET, HOUSE_NET, ROW, net_of("zab", "zb", "zb")):
            lot, reasons = least(net)
            for some in (reasons[1:], reasons[:-1], reasons + reasons[:1], reasons[:1] + reasons, reasons[::-1], (), lot,
                         reasons[1:] + reasons[:1], reasons[:1] * len(reasons), reasons + reasons):
                self.check_wrong(shows_least, net, (lot, some))
            for at, (other, part) in enumerate(reasons):
                for reason in ((part, other), (other, part, part), (other,), (other, ()), (other, other), (other[::-1], part),
                               (other, part[::-1] if len(part) > 1 else ()), (other[1:], part), (other + lot[:1], part)):
                    if reason != (other, part):
                        self.check_wrong(shows_least, net, (lot, reasons[:at] + (reason,) + reasons[at + 1:]))

    def test_each_part_in_each_reason(self):
        for net in (STAR_NET, HOUSE_NET, TRIANGLE, RING):
            lot, reasons = least(net)
            for at, (other, part) in enumerate(reasons):
                for some in lots_of(net.places):
                    shown = (lot, reasons[:at] + ((other, some),) + reasons[at + 1:])
                    self.assertIs(shows_least(net, shown), some in missed(net, other))

    def test_each_lot_with_the_reasons_told(self):
        for net in (STAR_NET, HOUSE_NET, TRIANGLE, RING, APART):
            reasons = least(net)[1]
            for lot in lots_of(net.places):
                self.assertIs(shows_least(net, (lot, reasons)), lot in fewest(net))

    def test_what_is_no_lot(self):
        lot, reasons = least(HOUSE_NET)
        for some in (lot[::-1], lot + lot[:1], lot + ("q",), ("q",) + lot[1:], list(lot), lot[:2] + lot[:1], "".join(lot),
                     (lot,), lot[:2] + (None,), lot[:2] + (0,), lot[:2] + ([],), (), ("",) * 3, lot[:1] * 3):
            self.check_wrong(shows_least, HOUSE_NET, (some, reasons))

    def test_another_form(self):
        self.check_spoiled(shows_least, HOUSE_NET, least(HOUSE_NET))
        self.check_spoiled(shows_least, STAR_NET, least(STAR_NET))
        self.check_spoiled(shows_least, net_of("abc", "ab", "bc"), least(net_of("abc", "ab", "bc")))

    def test_of_another_net(self):
        self.check_wrong(shows_least, HOUSE_NET, least(STAR_NET))
        self.check_wrong(shows_least, STAR_NET, least(HOUSE_NET))
        self.check_wrong(shows_least, HOUSE_NET.with_tie("c", "p"), least(HOUSE_NET))
        self.check_right(shows_least, HOUSE_NET.with_watcher("p"), least(HOUSE_NET))

    def test_values_of_any_kind(self):
        lot, reasons = least(HOUSE_NET)
        for value in any_values():
            for shown in (value, (value,), (value, value), (lot, value), (value, reasons), (lot, (value,) * len(reasons)),
                          (lot, ((value, value),) + reasons[1:]), (lot, ((reasons[0][0], value),) + reasons[1:]),
                          ("least", lot, reasons), (lot, reasons, value)):
                self.check_wrong(shows_least, HOUSE_NET, shown)


class Gains(Checks):

    def test_some(self):
        self.check(gains(HOUSE_NET), (("p", (0, 1, 2, 3, 4)),))
        self.check(gains(STAR_NET), (("m", (0, 1, 2)),))
        self.check(gains(FIVE), ())
        self.check(gains(net_of("abc", "ab", "ac")), (("c", (0,)),))
        self.check(gains(net_of("zyxw", "yx", "zy zx zw")), (("z", (0, 1)), ("w", (0, 1, 2))))
        self.check(gains(net_of("zyxwv", "yx", "zy zx wv")), (("z", (0, 1)), ("w", ()), ("v", ())))

    def test_against_own_reckoning(self):
        for net in some_nets("gains"):
            value = gains(net)
            others = tuple(place for place in net.places if place not in net.watchers)
            self.check(tuple(place for place, numbers in value), others)
            for place, numbers in value:
                self.assertTrue(is_ascending(numbers))
                watched = watched_by(net, [one for one in net.places if one in net.watchers or one == place])
                self.check(numbers, plain_sure(watched))

    def test_against_sure_ties(self):
        for net in drawn_nets("against", 20, least=7):
            self.check(gains(net), tuple((place, sure_ties(net.with_watcher(place)))
                                         for place in net.places if place not in net.watchers))


class Calls(Checks):

    def test_by_names(self):
        self.check(least(net=HOUSE_NET), least(HOUSE_NET))
        self.check_right(lambda value: shows_least(value=value, net=HOUSE_NET), least(HOUSE_NET))
        self.check(gains(net=HOUSE_NET), gains(HOUSE_NET))

    def test_equal_calls(self):
        for net in [FULL, *some_nets("equal")]:
            again = Net(net.text)
            for tell in (least, gains):
                self.check(tell(net), tell(again))
                self.check(tell(net), tell(net))
            self.assertEqual(net, again)
            self.check((net.places, net.watchers, net.ties), (again.places, again.watchers, again.ties))

    def test_what_is_handed_in_stays(self):
        lot, reasons = least(HOUSE_NET)
        for value in ([lot, reasons], (list(lot), list(reasons)), {"lot": [lot]}, (lot, [[other, part] for other, part in reasons])):
            before = copy.deepcopy(value)
            self.check_wrong(shows_least, HOUSE_NET, value)
            self.check(value, before)


if __name__ == "__main__":
    unittest.main()

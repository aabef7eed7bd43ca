"""Point 10: ties that failed, held against the ways themselves and a plain look at all tuples of ties."""

import copy
import functools
import itertools
import random
import time
import unittest

from plain import all_nets, drawn_nets, net_of, plain_row, plain_ways
from samples import (APART, BOUNDS, FIVE, FULL, HOUSE, NETS, RING, STAR, Checks, any_values, is_ascending, raised,
                     same)
from tiesums.errors import BadFailed, BadNumber, NoBlame
from tiesums.failing import blame, groups, verdict
from tiesums.nets import Net
from tiesums.ways import ways

HOUSE_NET, STAR_NET = Net(HOUSE), Net(STAR)
# No way goes along the ties behind d and between f and g.
TAIL = net_of("abcdefg", "abc", "ab bc ac cd de fg")
NO_WAYS = net_of("abc", "ac", "ab")
NO_NUMBERS = [-1, 4, 5, 10 ** 12 - 1, True, False, None, "1", "", (), (1,), [], [1], {}, {1: 1}, STAR_NET, BadNumber(1)]


@functools.lru_cache(maxsize=None)
def ways_and_ties(text):
    """Each way with the numbers of its ties."""
    net = Net(text)
    return [(way, {at for at, one in enumerate(plain_row(net, way)) if one}) for way in plain_ways(net)]


def along_ties(net, numbers):
    """The ways that go along one of these ties."""
    return tuple(way for way, ties in ways_and_ties(net.text) if not ties.isdisjoint(numbers))


def plain_blame(net, failed, most):
    tuples = [some for many in range(most + 1) for some in itertools.combinations(range(len(net.ties)), many)]
    return tuple(sorted(some for some in tuples if along_ties(net, some) == failed))


def small_nets(seed):
    return [STAR_NET, HOUSE_NET, RING, APART, TAIL, NO_WAYS, *itertools.islice(all_nets(3), 0, None, 3),
            *itertools.islice(all_nets(4), 0, None, 40), *drawn_nets(seed, 15, most=6)]


class Groups(Checks):

    def test_some(self):
        self.check(groups(STAR_NET), ((0,), (1,), (2,)))
        self.check(groups(HOUSE_NET), ((0,), (1,), (2,), (3, 4)))
        self.check(groups(NO_WAYS), ((0,),))
        self.check(groups(net_of("abcd", "ad", "ab bd cd")), ((0, 1), (2,)))
        self.check(groups(net_of("abcd", "ad", "ac cd bd ab")), ((0, 1), (2, 3)))
        self.check(groups(net_of("abcd", "ad", "bc")), ((0,),))

    def test_ties_along_which_no_way_goes_are_one_group(self):
        self.check(groups(TAIL), ((0,), (1,), (2,), (3, 4, 5)))
        self.check(groups(net_of("abcd", "ad", "ab cd bc".split()[:2])), ((0, 1),))

    def test_against_the_ways(self):
        for net in [*NETS, TAIL, NO_WAYS, *all_nets(3), *itertools.islice(all_nets(4), 0, None, 7), *drawn_nets("groups", 60)]:
            found = groups(net)
            self.assertTrue(is_ascending(found))
            self.assertEqual(sorted(tie for group in found for tie in group), list(range(len(net.ties))))
            by_ways = {}
            for tie in range(len(net.ties)):
                by_ways.setdefault(along_ties(net, [tie]), []).append(tie)
            self.check(found, tuple(sorted(tuple(group) for group in by_ways.values())))


class Blame(Checks):

    def check_net(self, net, failed):
        for most in range(4):
            wanted = plain_blame(net, failed, most)
            self.check(blame(net, failed, most), wanted)
            if wanted:
                counts = [sum(tie in some for some in wanted) for tie in range(len(net.ties))]
                always = tuple(tie for tie, count in enumerate(counts) if count == len(wanted))
                never = tuple(tie for tie, count in enumerate(counts) if count == 0)
                rest = tuple(tie for tie in range(len(net.ties)) if tie not in always + never)
                self.check(verdict(net, failed, most), (always, rest, never))
            else:
                self.check(raised(NoBlame, verdict, net, failed, most), failed)

    def test_ways_of_ties_that_failed(self):
        draw = random.Random("failed")
        for net in small_nets("failed"):
            for many in range(min(4, len(net.ties)) + 1):
                numbers = draw.sample(range(len(net.ties)), many)
                self.check_net(net, along_ties(net, numbers))

    def test_drawn_ways(self):
        draw = random.Random("ways")
        for net in small_nets("ways"):
            found = plain_ways(net)
            self.check_net(net, tuple(sorted(draw.sample(found, draw.randint(0, len(found))))))
            self.check_net(net, found)
            self.check_net(net, ())

    def test_all_lots_of_ways_of_the_star(self):
        found = ways(STAR_NET)
        for many in range(4):
            for failed in itertools.combinations(found, many):
                self.check_net(STAR_NET, failed)

    def test_star(self):
        found = ways(STAR_NET)
        self.check(blame(STAR_NET, found[:2], 1), ((0,),))
        self.check(blame(STAR_NET, found, 2), ((0, 1), (0, 2), (1, 2)))
        self.check(blame(STAR_NET, found, 3), ((0, 1), (0, 1, 2), (0, 2), (1, 2)))
        self.check(blame(STAR_NET, found, 1), ())
        self.check(blame(STAR_NET, found[:1], 3), ())
        self.check(verdict(STAR_NET, found, 3), ((), (0, 1, 2), ()))
        self.check(verdict(STAR_NET, found[:2], 3), ((0,), (), (1, 2)))

    def test_nothing_failed(self):
        self.check(blame(STAR_NET, (), 3), ((),))
        self.check(verdict(STAR_NET, (), 3), ((), (), (0, 1, 2)))
        self.check(blame(STAR_NET, (), 0), ((),))
        self.check(blame(TAIL, (), 1), ((), (3,), (4,), (5,)))
        self.check(blame(TAIL, (), 2), ((), (3,), (3, 4), (3, 5), (4,), (4, 5), (5,)))
        self.check(verdict(TAIL, (), 3), ((), (3, 4, 5), (0, 1, 2)))
        self.check(verdict(NO_WAYS, (), 0), ((), (), (0,)))
        self.check(verdict(NO_WAYS, (), 1), ((), (0,), ()))

    def test_most(self):
        failed = along_ties(HOUSE_NET, [3])
        self.check(blame(HOUSE_NET, failed, 0), ())
        self.check(blame(HOUSE_NET, failed, 1), ((3,), (4,)))
        self.check(blame(HOUSE_NET, failed, 2), ((3,), (3, 4), (4,)))
        self.check(verdict(HOUSE_NET, failed, 3), ((), (3, 4), (0, 1, 2)))

    def test_no_blame_keeps_the_failed_ways(self):
        for failed in (ways(STAR_NET)[:1], ways(STAR_NET)[2:]):
            self.assertIs(raised(NoBlame, verdict, STAR_NET, failed, 3), failed)
        failed = ways(STAR_NET)
        self.assertIs(raised(NoBlame, verdict, STAR_NET, failed, 0), failed)

    def test_time(self):
        start = time.monotonic()
        for net in BOUNDS:
            groups(net)
            for numbers in ((), (3,), (0, 5, 9)):
                self.assertIn(numbers, blame(net, along_ties(net, numbers), 3))
            blame(net, ways(net), 3)
        self.assertLess(time.monotonic() - start, 10)


def no_failed(net):
    """Values that are no ascending tuples of ways."""
    found = [value for value in any_values() if not same(value, ())]
    rows = ways(net)
    found += [list(rows), rows[::-1], rows + rows, rows[:1] + rows, rows + rows[-1:], rows[1:] + rows[:1], (rows,), [rows]]
    found += [rows[0], rows[0][::-1], dict.fromkeys(rows), "".join(rows[0]), rows + (None,), (0,) + rows, rows[:1] + ((),)]
    for at, way in enumerate(rows):
        for wrong in (way[::-1], list(way), "".join(way), way[:1], way + way[:1], (), None, 0, True, (way,), way + ("x",)):
            found.append(rows[:at] + (wrong,) + rows[at + 1:])
        found.append(rows[:at] + (way,) + rows[at:])
    return found


class WrongArguments(Checks):

    def test_no_failed_ways(self):
        for net in (STAR_NET, HOUSE_NET, RING):
            for value in no_failed(net):
                for tell in (blame, verdict):
                    self.assertIs(raised(BadFailed, tell, net, value, 1), value)

    def test_ways_of_another_net(self):
        for tell in (blame, verdict):
            self.check(raised(BadFailed, tell, STAR_NET, ways(HOUSE_NET), 1), ways(HOUSE_NET))
            failed = ways(STAR_NET.with_watcher("m"))
            self.check(raised(BadFailed, tell, STAR_NET, failed, 1), failed)

    def test_no_number(self):
        for value in NO_NUMBERS:
            for tell in (blame, verdict):
                for failed in ((), ways(STAR_NET), ways(STAR_NET)[:1]):
                    self.assertIs(raised(BadNumber, tell, STAR_NET, failed, value), value)

    def test_both(self):
        for value in no_failed(STAR_NET):
            for number in NO_NUMBERS[:7]:
                for tell in (blame, verdict):
                    self.assertIs(raised(BadFailed, tell, STAR_NET, value, number), value)

    def test_what_is_handed_in_stays(self):
        for value in ([("a", "m", "b")], {"a": [1]}, (["a"], []), [[]]):
            before = copy.deepcopy(value)
            for tell in (blame, verdict):
                raised(BadFailed, tell, STAR_NET, value, 1)
                raised(BadNumber, tell, STAR_NET, (), value)
            self.check(value, before)
        self.check((STAR_NET.text, STAR_NET.ties), (STAR, Net(STAR).ties))


class Calls(Checks):

    def test_by_names(self):
        failed = ways(STAR_NET)[:2]
        self.check(groups(net=STAR_NET), groups(STAR_NET))
        self.check(blame(most=2, failed=failed, net=STAR_NET), blame(STAR_NET, failed, 2))
        self.check(blame(STAR_NET, most=2, failed=failed), blame(STAR_NET, failed, 2))
        self.check(verdict(failed=failed, net=STAR_NET, most=2), verdict(STAR_NET, failed, 2))

    def test_equal_calls(self):
        for net in [FIVE, FULL, *small_nets("equal")]:
            again = Net(net.text)
            failed = along_ties(net, [0])
            for one in (net, again, net):
                self.check(groups(one), groups(again))
                self.check(blame(one, tuple(list(failed)), 2), blame(again, failed, 2))
                self.check(verdict(one, failed, 2), verdict(again, failed, 2))


if __name__ == "__main__":
    unittest.main()

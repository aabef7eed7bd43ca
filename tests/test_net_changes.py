"""Point 5: what is tied to a place, and the nets with a watcher or a tie more or less."""

import itertools
import unittest

from samples import HOUSE, STAR, any_values, raised, same
from tiesums.errors import BadTie, Few, Full, Last, NoPlace, NoWatcher, Watches
from tiesums.nets import Net

PLACES = "places a b c d e f g h"
PAIRS = tuple(itertools.combinations("abcdefgh", 2))
FULL = "\n".join([PLACES, "watchers a b"] + [" ".join(["tie", *pair]) for pair in PAIRS[:14]])
SINGLE = "places a b c\nwatchers a b\ntie a c"
TURNED = "places m z a k\nwatchers m a\ntie m k\ntie z a"


class Changes(unittest.TestCase):

    def setUp(self):
        self.nets = {text: Net(text) for text in (STAR, HOUSE, FULL, SINGLE, TURNED)}

    def tearDown(self):
        for text, net in self.nets.items():
            rows = tuple(tuple(line.split(" ")[1:]) for line in text.split("\n"))
            self.check((net.text, net.places, net.watchers, net.ties), (text, rows[0], rows[1], rows[2:]))

    def check(self, got, wanted):
        self.assertTrue(same(got, wanted), f"{got!r} instead of {wanted!r}")

    def check_net(self, net, text):
        rows = tuple(tuple(line.split(" ")[1:]) for line in text.split("\n"))
        self.assertIs(type(net), Net)
        self.check((net.text, net.places, net.watchers, net.ties), (text, rows[0], rows[1], rows[2:]))
        self.assertEqual(net, Net(text))

    def no_places(self, net):
        return any_values() + ["x", "places", "A", net, net.places, list(net.places), (net.places[0],), [net.places[0]]]


class Tied(Changes):

    def test_what_is_tied(self):
        star, house, full = self.nets[STAR], self.nets[HOUSE], self.nets[FULL]
        self.check([star.tied(place) for place in star.places], [("m",), ("m",), ("m",), ("a", "b", "c")])
        self.check([house.tied(place) for place in house.places], [("b", "c", "p"), ("a", "c", "p"), ("a", "b"), ("a", "b")])
        self.check(full.tied("a"), ("b", "c", "d", "e", "f", "g", "h"))
        self.check(full.tied("h"), ("a", "b"))

    def test_nothing_is_tied(self):
        self.check(self.nets[SINGLE].tied("b"), ())

    def test_sequence_is_that_of_the_text(self):
        net = Net("places z k a b\nwatchers z b\ntie k b\ntie a b\ntie z b\ntie z a")
        self.check(net.tied("b"), ("z", "k", "a"))
        self.check(net.tied("z"), ("a", "b"))
        self.check(self.nets[TURNED].tied("k"), ("m",))

    def test_by_name(self):
        self.check(self.nets[STAR].tied(place="m"), ("a", "b", "c"))

    def test_no_place(self):
        for net in self.nets.values():
            for value in self.no_places(net):
                self.assertIs(raised(NoPlace, net.tied, value), value)


class WithWatcher(Changes):

    def test_it_watches_too(self):
        self.check_net(self.nets[HOUSE].with_watcher("p"), HOUSE.replace("watchers a b c", "watchers a b c p"))
        self.check_net(self.nets[SINGLE].with_watcher("c"), SINGLE.replace("watchers a b", "watchers a b c"))

    def test_watchers_stay_in_sequence(self):
        self.check_net(self.nets[TURNED].with_watcher("z"), TURNED.replace("watchers m a", "watchers m z a"))
        self.check_net(self.nets[TURNED].with_watcher("k"), TURNED.replace("watchers m a", "watchers m a k"))
        behind = Net(SINGLE.replace("watchers a b", "watchers b c"))
        self.check_net(behind.with_watcher("a"), SINGLE.replace("watchers a b", "watchers a b c"))

    def test_all_can_watch(self):
        net = self.nets[FULL]
        for place in "hgfedc":
            net = net.with_watcher(place)
        self.check_net(net, FULL.replace("watchers a b", "watchers a b c d e f g h"))

    def test_by_name(self):
        self.check_net(self.nets[HOUSE].with_watcher(place="p"), HOUSE.replace("watchers a b c", "watchers a b c p"))

    def test_no_place(self):
        for net in self.nets.values():
            for value in self.no_places(net):
                self.assertIs(raised(NoPlace, net.with_watcher, value), value)

    def test_it_watches_already(self):
        for net in self.nets.values():
            for place in net.watchers:
                self.check(raised(Watches, net.with_watcher, place), place)


class WithoutWatcher(Changes):

    def test_it_does_not_watch(self):
        for place, left in (("a", "b c"), ("b", "a c"), ("c", "a b")):
            for text in (STAR, HOUSE):
                self.check_net(self.nets[text].without_watcher(place), text.replace("watchers a b c", "watchers " + left))

    def test_there_and_back(self):
        self.assertEqual(self.nets[HOUSE].with_watcher("p").without_watcher("p"), self.nets[HOUSE])
        self.assertEqual(self.nets[HOUSE].without_watcher("a").with_watcher("a"), self.nets[HOUSE])

    def test_by_name(self):
        self.check_net(self.nets[STAR].without_watcher(place="b"), STAR.replace("watchers a b c", "watchers a c"))

    def test_no_place(self):
        for net in self.nets.values():
            for value in self.no_places(net):
                self.assertIs(raised(NoPlace, net.without_watcher, value), value)

    def test_it_does_not_watch_anyhow(self):
        for net in self.nets.values():
            for place in net.places:
                if place not in net.watchers:
                    self.check(raised(NoWatcher, net.without_watcher, place), place)

    def test_just_two_watch(self):
        for text in (FULL, SINGLE, TURNED):
            for place in self.nets[text].watchers:
                self.check(raised(Few, self.nets[text].without_watcher, place), 2)

    def test_no_watcher_is_told_ahead_of_few(self):
        self.check(raised(NoWatcher, self.nets[SINGLE].without_watcher, "c"), "c")
        self.check(raised(NoPlace, self.nets[SINGLE].without_watcher, "x"), "x")


class WithTie(Changes):

    def test_the_line_stands_behind_the_others(self):
        self.check_net(self.nets[STAR].with_tie("a", "b"), STAR + "\ntie a b")
        self.check_net(self.nets[HOUSE].with_tie("c", "p"), HOUSE + "\ntie c p")
        self.check_net(self.nets[STAR].with_tie("b", "c").with_tie("a", "c"), STAR + "\ntie b c\ntie a c")

    def test_the_place_that_stands_ahead_is_written_first(self):
        self.check_net(self.nets[STAR].with_tie("b", "a"), STAR + "\ntie a b")
        self.check_net(self.nets[TURNED].with_tie("a", "m"), TURNED + "\ntie m a")
        self.check_net(self.nets[TURNED].with_tie("k", "a"), TURNED + "\ntie a k")
        self.check_net(self.nets[TURNED].with_tie("z", "k"), TURNED + "\ntie z k")

    def test_up_to_fourteen(self):
        net = Net(PLACES + "\nwatchers a b\ntie a b")
        for pair in PAIRS[1:14]:
            net = net.with_tie(*pair)
        self.check_net(net, FULL)

    def test_by_name(self):
        self.check_net(self.nets[STAR].with_tie(one="a", other="b"), STAR + "\ntie a b")
        self.check_net(self.nets[STAR].with_tie(other="a", one="b"), STAR + "\ntie a b")
        self.check_net(self.nets[STAR].with_tie("c", other="b"), STAR + "\ntie b c")

    def test_no_place(self):
        for net in self.nets.values():
            for value in self.no_places(net):
                self.assertIs(raised(NoPlace, net.with_tie, value, net.places[0]), value)
                self.assertIs(raised(NoPlace, net.with_tie, net.places[0], value), value)
                self.assertIs(raised(NoPlace, net.with_tie, value, "y"), value)
                self.assertIs(raised(NoPlace, net.with_tie, value, None), value)
                self.assertIs(raised(NoPlace, net.with_tie, value, value), value)
        self.check(raised(NoPlace, self.nets[STAR].with_tie, other="x", one="y"), "y")
        self.check(raised(NoPlace, self.nets[STAR].with_tie, other="x", one="a"), "x")

    def test_alike(self):
        for net in self.nets.values():
            for place in net.places:
                self.check(raised(BadTie, net.with_tie, place, place), (place, place))

    def test_tied_already(self):
        for net in self.nets.values():
            for one, other in net.ties:
                self.check(raised(BadTie, net.with_tie, one, other), (one, other))
                self.check(raised(BadTie, net.with_tie, other, one), (other, one))
        self.check(raised(BadTie, self.nets[STAR].with_tie, other="a", one="m"), ("m", "a"))

    def test_full(self):
        for pair in PAIRS[14:]:
            self.check(raised(Full, self.nets[FULL].with_tie, *pair), 14)
            self.check(raised(Full, self.nets[FULL].with_tie, *reversed(pair)), 14)

    def test_bad_tie_and_no_place_are_told_ahead_of_full(self):
        self.check(raised(BadTie, self.nets[FULL].with_tie, "a", "b"), ("a", "b"))
        self.check(raised(BadTie, self.nets[FULL].with_tie, "h", "h"), ("h", "h"))
        self.check(raised(NoPlace, self.nets[FULL].with_tie, "g", "x"), "x")


class WithoutTie(Changes):

    def test_the_line_is_out(self):
        for text in (STAR, HOUSE, FULL, TURNED):
            lines = text.split("\n")
            for at, (one, other) in enumerate(self.nets[text].ties, start=2):
                left = "\n".join(lines[:at] + lines[at + 1:])
                self.check_net(self.nets[text].without_tie(one, other), left)
                self.check_net(self.nets[text].without_tie(other, one), left)

    def test_there_and_back(self):
        self.assertEqual(self.nets[STAR].with_tie("b", "a").without_tie("a", "b"), self.nets[STAR])
        self.assertEqual(self.nets[FULL].without_tie(*PAIRS[13]).with_tie(*PAIRS[13]), self.nets[FULL])
        moved = self.nets[STAR].without_tie("m", "a").with_tie("m", "a")
        self.check(moved.ties, (("b", "m"), ("c", "m"), ("a", "m")))
        self.assertNotEqual(moved, self.nets[STAR])

    def test_by_name(self):
        left = STAR.replace("\ntie b m", "")
        self.check_net(self.nets[STAR].without_tie(one="b", other="m"), left)
        self.check_net(self.nets[STAR].without_tie(other="b", one="m"), left)

    def test_no_place(self):
        for net in self.nets.values():
            for value in self.no_places(net):
                self.assertIs(raised(NoPlace, net.without_tie, value, net.places[0]), value)
                self.assertIs(raised(NoPlace, net.without_tie, net.places[0], value), value)
                self.assertIs(raised(NoPlace, net.without_tie, value, "y"), value)
                self.assertIs(raised(NoPlace, net.without_tie, value, value), value)
        self.check(raised(NoPlace, self.nets[STAR].without_tie, other="x", one="y"), "y")

    def test_not_tied(self):
        for net in self.nets.values():
            for one, other in itertools.product(net.places, repeat=2):
                if (one, other) not in net.ties and (other, one) not in net.ties:
                    self.check(raised(BadTie, net.without_tie, one, other), (one, other))
        self.check(raised(BadTie, self.nets[STAR].without_tie, other="a", one="c"), ("c", "a"))

    def test_no_other_tie(self):
        self.check(raised(Last, self.nets[SINGLE].without_tie, "a", "c"), ("a", "c"))
        self.check(raised(Last, self.nets[SINGLE].without_tie, "c", "a"), ("c", "a"))
        self.check(raised(Last, self.nets[SINGLE].without_tie, other="a", one="c"), ("c", "a"))

    def test_bad_tie_and_no_place_are_told_ahead_of_last(self):
        self.check(raised(BadTie, self.nets[SINGLE].without_tie, "a", "b"), ("a", "b"))
        self.check(raised(BadTie, self.nets[SINGLE].without_tie, "a", "a"), ("a", "a"))
        self.check(raised(NoPlace, self.nets[SINGLE].without_tie, "a", "x"), "x")


if __name__ == "__main__":
    unittest.main()

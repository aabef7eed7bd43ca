"""Inputs that take longest, asked again and again: all of it ends within seconds, and no answer became another one."""

import hashlib
import itertools
import random
import time
import unittest

from plain import all_nets, costs_of, drawn_nets, net_of, unit
from samples import BOUNDS, NETS, Checks
from tiesums.beside import alike, shows_alike, shows_within, within
from tiesums.blind import bent, blind, edge, parts
from tiesums.choosing import cheapest, shows_cheapest
from tiesums.failing import blame, groups
from tiesums.nets import Net
from tiesums.placing import gains, least, shows_least
from tiesums.readings import fitting, mended, next_way, reckoned, shows_mended
from tiesums.surveys import Survey
from tiesums.told import (base, shows_base, shows_tie_told, shows_told, shows_whole, sure_ties, tie_told, told,
                          whole)
from tiesums.ways import sums, ways

ALL_WATCH = net_of("abcdefgh", "abcdefgh", "ac ah bf fh dg eh ef bh fg cg af cf cd bg")
THREE_WATCH = net_of("abcdefgh", "cdg", "eh gh bf fg ch ah ab bc af ae cg dh eg bd")
# 718 ways, but not all ties are told, so that all of them have to be looked at.
NOT_TOLD = Net("places c za b m aa x d y\nwatchers c za m aa x d y\n" + "\n".join("tie " + tie for tie in (
    "za m", "x y", "c x", "x d", "c za", "za y", "b m", "c aa", "aa d", "c m", "c d", "b aa", "aa x", "za x")))
LONGEST = [ALL_WATCH, THREE_WATCH, NOT_TOLD]

# Of the answers that the package gave before it was made faster.
DIGESTS = {
    "three places": "8823ab97ceb6b655e254547ad1069b0d13de9fc6f380446f20981321a3d5a39b",
    "four places": "7b7edbaceeefebbac506384cc97bbd5105437f1940e45ff863838393be512519",
    "five places": "1478922a91c02a6dd365b43828ff0f1e5d05a03764b79410ba4289847bedb5ac",
    "samples": "21780d2c6e174884e79bf0927d1c33af0f540a1924090cc5111161c7890867f1",
}


def answers(net):
    """All that is told of a net."""
    costs = costs_of(*[f"{(-1) ** number * (number + 1)}/{number % 3 + 1}" for number in range(len(net))])
    found = [ways(net), sums(net, costs), whole(net), base(net), sure_ties(net), least(net), gains(net), parts(net)]
    found += [blind(net), [edge(net, lot) for lot in parts(net)], [tie_told(net, tie) for tie in net.ties]]
    found += [told(net, costs), told(net, costs_of(*[1] * len(net))), told(net, costs_of(*[0] * len(net)))]
    return found + [bent(net, lot) for lot in parts(net) if not set(lot) & set(net.watchers)]


def digest(nets):
    return hashlib.sha256(repr([answers(net) for net in nets]).encode()).hexdigest()


NETS_BY_NAME = {
    "three places": lambda: all_nets(3),
    "four places": lambda: itertools.islice(all_nets(4), 0, None, 5),
    "five places": lambda: itertools.islice(all_nets(5), 0, None, 211),
    "samples": lambda: [*NETS, *LONGEST],
}


class AnswersStay(Checks):
    """Where any of several results is right, it is still the one that it was."""

    def test_digests(self):
        for name, nets in NETS_BY_NAME.items():
            self.assertEqual(digest(nets()), DIGESTS[name], name)

    def test_asked_in_any_sequence(self):
        draw = random.Random("sequence")
        calls = [ways, whole, base, sure_ties, least, gains, parts, blind, lambda net: tie_told(net, net.ties[0]),
                 lambda net: sums(net, unit(net, 0)), lambda net: told(net, unit(net, len(net) - 1)),
                 lambda net: within(net, net), lambda net: fitting(net, ()), lambda net: next_way(net, (), unit(net, 0))]
        for net in [*LONGEST, *NETS, *drawn_nets("sequence", 30)]:
            wanted = [call(Net(net.text)) for call in calls]
            again = Net(net.text)
            for at in draw.sample(range(len(calls)), len(calls)) + draw.sample(range(len(calls)), len(calls)):
                self.check(calls[at](again), wanted[at])
            self.assertEqual(again, net)
            self.check((again.text, again.places, again.watchers, again.ties), (net.text, net.places, net.watchers, net.ties))

    def test_another_net_of_the_same_ties(self):
        # What was found out of a net does not go on to those that are made of it.
        for net in (THREE_WATCH, NOT_TOLD, BOUNDS[2]):
            whole(net)
            ways(net)
            for place in net.places:
                changed = net.without_watcher(place) if place in net.watchers else net.with_watcher(place)
                self.check(answers(changed)[:5], answers(Net(changed.text))[:5])


class Time(Checks):

    def ask(self, net):
        """What was reported to take longest, and whether it is shown to be right."""
        for tie in (net.ties[0], net.ties[-1]):
            self.check_right(shows_tie_told, net, tie, tie_told(net, tie))
        weights = costs_of(*range(len(net)))
        self.check_right(shows_told, net, weights, told(net, weights))
        self.check_right(shows_whole, net, whole(net))
        self.check_right(shows_base, net, base(net))
        self.check_right(shows_least, net, least(net))
        self.check_wrong(shows_least, net, (net.places, ()))
        return sure_ties(net), parts(net), blind(net), gains(net)

    def within_seconds(self, most, ask, nets):
        start = time.monotonic()
        for net in nets:
            ask(net)
        self.assertLess(time.monotonic() - start, most)

    def test_nets_made_anew(self):
        self.within_seconds(8, self.ask, [Net(net.text) for net in [*LONGEST, *BOUNDS] * 50])

    def test_one_net_again_and_again(self):
        self.within_seconds(8, self.ask, [*LONGEST, *BOUNDS] * 50)

    def test_many_drawn_nets(self):
        self.within_seconds(20, self.ask, drawn_nets("many", 1000, least=7))

    def test_readings(self):
        draw = random.Random("readings")

        def ask(net):
            found = ways(net)
            readings = tuple((draw.choice(found[:9]), draw.randint(-10 ** 9, 10 ** 9)) for _ in range(10))
            value = mended(net, readings)
            self.check_right(shows_mended, net, readings, value)
            rest = tuple(one for at, one in enumerate(readings) if at not in value[0])
            survey = Survey(net)
            for reading in rest:
                survey.read(*reading)
            for number in range(len(net)):
                self.check(reckoned(net, rest, unit(net, number)), survey.cost(unit(net, number)))
                survey.next(unit(net, number))
            survey.sure()
        self.within_seconds(10, ask, [Net(net.text) for net in [*LONGEST, *BOUNDS] * 5])

    def test_nets_beside_one_another(self):
        def ask(net):
            place = [place for place in net.watchers][-1]
            other = net.without_watcher(place)
            for one, two in ((net, other), (other, net)):
                self.check_right(shows_within, one, two, within(one, two))
                self.check_right(shows_alike, one, two, alike(one, two))
        self.within_seconds(10, ask, [Net(net.text) for net in [*LONGEST, BOUNDS[0], BOUNDS[2]] * 8])

    def test_nets_beside_one_another_with_few_watchers(self):
        ties = [tuple(sorted(tie)) for tie in "eh dh df bh fh gh ad cd bc cf bf ag ae de".split()]
        few, all_watch = net_of("abcdefgh", "cfg", ties), net_of("abcdefgh", "abcdefgh", ties)

        def ask(net):
            one, other = Net(few.text), Net(all_watch.text)
            self.check_right(shows_within, one, other, within(one, other))
            self.check_right(shows_alike, one, other, alike(one, other))
        self.within_seconds(10, ask, [few] * 25)

    def test_choices_none_of_which_is_enough(self):
        ties = "cg ch ah bf eh gh bh de cf ae af".split()
        net = net_of("abcdefgh", "abcfgh", [tuple(sorted(tie)) for tie in ties])
        offers = (("tie", "a", "c", 4), ("tie", "c", "d", 6), ("tie", "f", "g", 6), ("tie", "f", "h", 6))

        def ask(net):
            value = cheapest(net, offers, (4, 6, 7))
            self.assertEqual((value[0], len(value[1])), ("none", 15))
            self.check_right(shows_cheapest, net, offers, (4, 6, 7), value)
        self.within_seconds(10, ask, [Net(net.text) for _ in range(100)])

    def test_failed_ways(self):
        def ask(net):
            groups(net)
            failed = tuple(way for way in ways(net) if net.ties[0][0] in way and net.ties[0][1] in way)
            blame(net, failed, 3)
            blame(net, ways(net), 3)
        self.within_seconds(10, ask, [Net(net.text) for net in [*LONGEST, *BOUNDS] * 20])

    def test_readings_that_mostly_do_not_fit(self):
        draw = random.Random("wrong")

        def ask(net):
            found = ways(net)
            for many in (2, 5, len(found)):
                readings = tuple((draw.choice(found[:many]), draw.randint(-9, 9)) for _ in range(10))
                self.check_right(shows_mended, net, readings, mended(net, readings))
        nine = net_of("abcdefgh", "bcfg", "ab bc cd de ef fg gh ah be")
        self.within_seconds(10, ask, [nine] * 100)

    def test_a_survey_asked_again_and_again(self):
        draw = random.Random("again")

        def ask(net):
            survey = Survey(net)
            costs = costs_of(*[draw.randint(1, 99) for _ in net.ties])
            for way, worth in draw.sample(list(zip(ways(net), sums(net, costs))), 10):
                survey.read(way, worth[0])
                for number in range(len(net)):
                    survey.next(unit(net, number))
                    self.assertIs(survey.shows_cost(unit(net, number), survey.cost(unit(net, number))), True)
                survey.sure()
        self.within_seconds(10, ask, [Net(net.text) for net in [*LONGEST, *BOUNDS] * 5])

    def test_choices(self):
        draw = random.Random("choices")

        def ask(net):
            fewer = net_of(net.places, net.watchers, net.ties[2:])
            pool = [("tie", *pair, draw.randint(1, 99)) for pair in itertools.combinations(net.places, 2) if pair not in fewer]
            pool += [("watch", place, draw.randint(1, 99)) for place in net.places if place not in net.watchers]
            offers = tuple(sorted(draw.sample(pool, 4)))
            wishes = tuple(range(len(fewer)))
            self.check_right(shows_cheapest, fewer, offers, wishes, cheapest(fewer, offers, wishes))
        self.within_seconds(10, ask, [*LONGEST, *BOUNDS] * 10)


if __name__ == "__main__":
    unittest.main()

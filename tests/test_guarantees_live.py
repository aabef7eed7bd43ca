"""Point 3 over choices, surveys, journals and desks, and (e) above all; then all of it side by side."""

import itertools
import random
import unittest
from fractions import Fraction

from plain import (all_nets, drawn_nets, net_of, number_of, plain_blind, plain_row, plain_sums, plain_sure, plain_ways, some_fit,
                   unit, watched_by, worth)
from samples import BOUNDS, FIVE, HOUSE, RING, STAR, Checks
from standing import whole_state
from tiesums.beside import within
from tiesums.blind import blind
from tiesums.choosing import cheapest
from tiesums.desk import Desk
from tiesums.errors import TieError
from tiesums.journals import journal, read_journal
from tiesums.nets import Net
from tiesums.placing import gains, least
from tiesums.readings import fitting, reckoned
from tiesums.surveys import Survey
from tiesums.told import sure_ties, tie_told, told, whole

HOUSE_NET, STAR_NET = Net(HOUSE), Net(STAR)


class Stop(Exception):
    """What leaves a block."""


def some_nets(seed, count=12, most=6):
    return [STAR_NET, HOUSE_NET, RING, FIVE, *[net for net in drawn_nets(seed, count, most=most) if plain_ways(net)]]


def drawn_costs(draw, net):
    return [draw.randint(-99999999, 99999999) for _ in net.ties]


def read_of(draw, survey, costs):
    way = draw.choice(plain_ways(survey.net))
    return way, sum(cost * one for cost, one in zip(costs, plain_row(survey.net, way)))


def stir(draw, survey, costs, depth=0):
    """Some deeds, some of them refused, some taken back, some within blocks that are kept or not."""
    for _ in range(draw.randint(1, 5)):
        kind = draw.choice(["read", "read", "wrong", "watch", "undo", "redo", "trial"])
        try:
            if kind == "read":
                survey.read(*read_of(draw, survey, costs))
            elif kind == "wrong":
                way, amount = read_of(draw, survey, costs)
                survey.read(way, amount + 1)
            elif kind == "watch":
                survey.watch(draw.choice(survey.net.places))
            elif kind in ("undo", "redo"):
                getattr(survey, kind)()
            elif depth < 2:
                with survey.trial() as held:
                    stir(draw, held, costs, depth + 1)
                    if draw.random() < 0.5:
                        held.keep()
                    if draw.random() < 0.3:
                        raise Stop
        except (TieError, Stop):
            pass


class Live(Checks):
    """(e) The sums are always such as some costs have; what was undone, and trials that were not kept, leave nothing."""

    def check_live(self, survey):
        self.assertTrue(some_fit(survey.net, survey.readings))
        self.check(fitting(survey.net, survey.readings)[0], "costs")
        text = journal(survey)
        again = read_journal(text)
        self.assertEqual(again, survey)
        self.check(journal(again), text)
        # A survey in which nothing else was ever done tells the same.
        self.check((again.readings, again.done, again.sure()), (survey.readings, survey.done, survey.sure()))
        self.assertEqual((again.net, again.first), (survey.net, survey.first))
        for number in range(len(survey.net)):
            weights = unit(survey.net, number)
            self.check(again.cost(weights), survey.cost(weights))
            self.check(again.next(weights), survey.next(weights))
        desk = Desk(text)
        self.assertEqual(desk.survey, survey)
        self.check(desk.say("told"), " ".join(map(str, plain_sure(survey.net))))

    def test_drawn_rows(self):
        draw = random.Random("live")
        for first in some_nets("live"):
            survey, costs = Survey(first), drawn_costs(draw, first)
            for _ in range(6):
                stir(draw, survey, costs)
                self.check_live(survey)

    def test_nets_at_the_bounds(self):
        draw = random.Random("bounds")
        for first in BOUNDS:
            survey, costs = Survey(first), drawn_costs(draw, first)
            for _ in range(3):
                stir(draw, survey, costs)
            self.check_live(survey)

    def test_what_is_not_kept_leaves_nothing(self):
        draw = random.Random("kept")
        for first in some_nets("kept"):
            survey, costs = Survey(first), drawn_costs(draw, first)
            stir(draw, survey, costs)
            before = whole_state(survey)
            for _ in range(4):
                with survey.trial() as held:
                    stir(draw, held, drawn_costs(draw, first))
                self.check(whole_state(survey), before)
                survey.tried(lambda held: stir(draw, held, drawn_costs(draw, first)))
                self.check(whole_state(survey), before)

    def test_what_was_undone_leaves_nothing(self):
        draw = random.Random("undone")
        for first in some_nets("undone"):
            survey, costs = Survey(first), drawn_costs(draw, first)
            while survey.done < 5:
                survey.read(*read_of(draw, survey, costs))
            for _ in range(5):
                survey.undo()
            self.assertEqual(survey, Survey(first))
            # Sums that would have contradicted those that were undone.
            other = drawn_costs(draw, first)
            for _ in range(5):
                survey.read(*read_of(draw, survey, other))
            self.check_live(survey)


class AllCosts(Checks):
    """(a) What a survey is sure of are the costs from which its sums came, whatever these are."""

    def test_surveys(self):
        draw = random.Random("costs")
        for first in some_nets("costs", 20):
            survey, costs = Survey(first), drawn_costs(draw, first)
            for _ in range(draw.randint(1, 9)):
                survey.read(*read_of(draw, survey, costs))
            for number, (top, low) in survey.sure():
                self.assertEqual(Fraction(top, low), costs[number])

    def test_next_ways_lead_on(self):
        draw = random.Random("next")
        for first in some_nets("next", 20):
            survey, costs = Survey(first), drawn_costs(draw, first)
            for _ in range(8):
                survey.read(*read_of(draw, survey, costs))
            for number in range(len(first)):
                value = survey.next(unit(first, number))
                self.assertEqual(value == ("sure",), number in dict(survey.sure()))
                if value[0] == "way":
                    for amount in (0, 17, -10 ** 8):
                        one = survey.copy()
                        one.read(value[1], amount)
                        self.assertIn(number, dict(one.sure()))

    def test_reading_all_that_base_needs_makes_all_told_ties_sure(self):
        draw = random.Random("all ways")
        for first in some_nets("all ways", 20, most=5):
            costs, readings = drawn_costs(draw, first), ()
            for way in plain_ways(first):
                amount = sum(cost * one for cost, one in zip(costs, plain_row(first, way)))
                weights = tuple((one, 1) for one in plain_row(first, way))
                if len(readings) < 10 and reckoned(first, readings, weights)[0] == "open":
                    readings += ((way, amount),)
            survey = Survey(first)
            for reading in readings:
                survey.read(*reading)
            if len(readings) < 10:
                self.check(tuple(number for number, cost in survey.sure()), plain_sure(first))
                self.assertEqual([number_of(cost) for number, cost in survey.sure()], [costs[at] for at in plain_sure(first)])

    def test_cheapest(self):
        draw = random.Random("cheapest")
        for net in some_nets("cheapest", 15):
            pool = [("tie", *pair, draw.randint(1, 9)) for pair in itertools.combinations(net.places, 2) if pair not in net]
            pool += [("watch", place, draw.randint(1, 9)) for place in net.places if place not in net.watchers]
            if pool:
                offers = tuple(sorted(draw.sample(pool, min(4, len(pool)))))
                wishes = tuple(range(len(net)))
                value = cheapest(net, offers, wishes)
                for choice, number, costs, others in value[-1]:
                    other = self.by(net, choice)
                    self.assertEqual(plain_sums(other, costs), plain_sums(other, others))
                    self.assertNotEqual(costs[number], others[number])
                if value[0] == "choice":
                    other = self.by(net, value[2])
                    costs = [(draw.randint(-99, 99), 1) for _ in other.ties]
                    seen = dict(zip(plain_ways(other), plain_sums(other, costs)))
                    found = [sum(number_of(number) * seen[way] for way, number in row) for row in value[3]]
                    self.assertEqual(found, [costs[wish][0] for wish in wishes])

    def by(self, net, choice):
        for one in choice:
            net = net.with_watcher(one[1]) if one[0] == "watch" else net.with_tie(*one[1:3])
        return net


class More(Checks):
    """(b) What was told is told, and what was sure is sure, with a watcher more and with a reading more."""

    def test_surveys(self):
        draw = random.Random("more")
        for first in some_nets("more", 20):
            survey, costs = Survey(first), drawn_costs(draw, first)
            sure, seen = {}, ()
            for _ in range(12):
                others = [place for place in first.places if place not in survey.net.watchers]
                if others and draw.random() < 0.3:
                    survey.watch(draw.choice(others))
                elif len(survey) < 10:
                    survey.read(*read_of(draw, survey, costs))
                self.assertLessEqual(set(sure.items()), set(survey.sure()))
                self.assertLessEqual(set(seen), set(sure_ties(survey.net)))
                self.assertLessEqual(set(dict(survey.sure())), set(sure_ties(survey.net)))
                sure, seen = dict(survey.sure()), sure_ties(survey.net)

    def test_what_is_enough_stays_enough(self):
        draw = random.Random("enough")
        for net in some_nets("enough", 15):
            others = [place for place in net.places if place not in net.watchers]
            if others:
                offers = (("watch", draw.choice(others), 3),)
                wishes = tuple(range(len(net)))
                before = cheapest(net, offers, wishes)
                for place in others:
                    if place != offers[0][1] and before[0] == "choice":
                        self.assertLessEqual(cheapest(net.with_watcher(place), offers, wishes)[1], before[1])


class Names(Checks):
    """(d) By other names, and in another sequence, the same is told."""

    def changed(self, draw, net):
        names = ["q", "rs", "z", "a", "ab", "k", "yyyyyyyy", "b"]
        draw.shuffle(names)
        by = dict(zip(net.places, names))
        places = draw.sample([by[place] for place in net.places], len(net.places))
        watchers = [place for place in places if place in [by[one] for one in net.watchers]]
        ties = draw.sample([self.pair(places, by, tie) for tie in net.ties], len(net))
        return net_of(places, watchers, ties), by

    def pair(self, places, by, tie):
        return tuple(sorted([by[place] for place in tie], key=places.index))

    def test_surveys(self):
        draw = random.Random("names")
        for net in some_nets("names", 20):
            other, by = self.changed(draw, net)
            one, two, costs = Survey(net), Survey(other), drawn_costs(draw, net)
            for _ in range(8):
                way, amount = read_of(draw, one, costs)
                moved = tuple(by[place] for place in way)
                ahead = other.places.index(moved[0]) < other.places.index(moved[-1])
                one.read(way, amount)
                two.read(moved if ahead else moved[::-1], amount)
                wanted = {other.ties.index(self.pair(other.places, by, net.ties[number])): cost for number, cost in one.sure()}
                self.assertEqual(dict(two.sure()), wanted)

    def test_cheapest(self):
        draw = random.Random("offers")
        for net in some_nets("offers", 20):
            other, by = self.changed(draw, net)
            pool = [("tie", *pair, draw.randint(1, 9)) for pair in itertools.combinations(net.places, 2) if pair not in net]
            pool += [("watch", place, draw.randint(1, 9)) for place in net.places if place not in net.watchers]
            if pool:
                offers = sorted(draw.sample(pool, min(4, len(pool))))
                moved = [("watch", by[one[1]], one[2]) if one[0] == "watch" else ("tie", *self.pair(other.places, by, one[1:3]), one[3])
                         for one in offers]
                wishes = sorted(draw.sample(range(len(net)), min(2, len(net))))
                turned = sorted(other.ties.index(self.pair(other.places, by, net.ties[wish])) for wish in wishes)
                value = cheapest(net, tuple(offers), tuple(wishes))
                found = cheapest(other, tuple(sorted(moved)), tuple(turned))
                self.check(found[:2] if found[0] == "choice" else found[:1], value[:2] if value[0] == "choice" else value[:1])


class SideBySide(Checks):
    """What the modules tell of one net agrees."""

    def check_net(self, net):
        sure = sure_ties(net)
        told_ones = [number for number, tie in enumerate(net.ties) if tie_told(net, tie)[0] == "told"]
        self.check(sure, tuple(told_ones))
        self.assertEqual(whole(net)[0] == "all", len(sure) == len(net))
        self.assertEqual(blind(net) == ("none",), whole(net)[0] == "all")
        self.assertEqual(blind(net) != ("none",), bool(plain_blind(net)))
        lot, reasons = least(net)
        self.check(whole(watched_by(net, lot))[0], "all")
        for place, numbers in gains(net):
            self.check(sure_ties(net.with_watcher(place)), numbers)
            self.check(within(net.with_watcher(place), net)[0], "within")
        others = [place for place in net.places if place not in net.watchers]
        offers = tuple(sorted(("watch", place, 1) for place in others))[:4]
        if offers:
            value = cheapest(net, offers, tuple(range(len(net))))
            every = watched_by(net, [place for place in net.places if place in net.watchers or place in [one[1] for one in offers]])
            self.assertEqual(value[0] == "choice", whole(every)[0] == "all")
            if value[0] == "choice" and len(others) <= 4:
                self.assertGreaterEqual(len(value[2]) + len(net.watchers), len(lot))
        self.check(Desk(journal(Survey(net))).say("told"), " ".join(map(str, sure)))
        self.check(told(net, ((0, 1),) * len(net))[0], "told")

    def test_small_nets(self):
        for net in itertools.chain(all_nets(3), itertools.islice(all_nets(4), 0, None, 9)):
            self.check_net(net)

    def test_drawn_nets(self):
        for net in drawn_nets("side by side", 40, least=5, most=7):
            self.check_net(net)

    def test_nets_at_the_bounds(self):
        for net in BOUNDS:
            self.check_net(net)

    def test_a_survey_beside_what_readings_tell(self):
        draw = random.Random("beside")
        for net in some_nets("beside"):
            survey, costs = Survey(net), drawn_costs(draw, net)
            for _ in range(5):
                survey.read(*read_of(draw, survey, costs))
                for number, tie in enumerate(net.ties):
                    value = reckoned(net, survey.readings, unit(net, number))
                    self.check(survey.cost(unit(net, number)), value)
                    if value[0] == "sure":
                        self.check(tie_told(net, tie)[0], "told")
                        self.assertEqual(number_of(value[1]), worth(fitting(net, survey.readings)[1], unit(net, number)))


if __name__ == "__main__":
    unittest.main()

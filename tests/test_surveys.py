"""Point 14: a survey at work: readings, watchers, what is asked, undo and redo, copies, and when surveys are equal."""

import copy
import random
import time
import unittest

from plain import (costs_of, drawn_nets, is_made_of, net_of, number_of, numbers_of, pair_of, plain_row, plain_ways, reading_rows,
                   some_fit, tears, unit, worth)
from samples import APART, BOUNDS, FIVE, HOUSE, RING, STAR, Checks, any_values, no_costs, raised, same
from standing import whole_state
from tiesums.errors import (BadNumber, BadWay, BadWeights, Full, NoPlace, NothingToRedo, NothingToUndo, Torn, Watches)
from tiesums.journals import journal, read_journal
from tiesums.nets import Net
from tiesums.readings import fitting, next_way, reckoned, shows_fitting
from tiesums.surveys import Survey
from tiesums.ways import ways

HOUSE_NET, STAR_NET = Net(HOUSE), Net(STAR)
AB, AC, BC = ways(STAR_NET)
AM = unit(STAR_NET, 0)


class Deeds(Checks):
    """A survey, and beside it what the test itself notes of its deeds."""

    def check_state(self, survey, first, deeds):
        watchers = [place for place in first.places if place in first.watchers or ("watch", place) in deeds]
        net = net_of(first.places, watchers, first.ties)
        readings = tuple(deed[1:] for deed in deeds if deed[0] == "read")
        self.assertEqual((survey.first, survey.net), (first, net))
        self.check(survey.readings, readings)
        self.check((survey.done, len(survey)), (len(deeds), len(readings)))
        self.assertTrue(some_fit(net, readings))
        sure = []
        for number in range(len(net.ties)):
            if is_made_of(reading_rows(net, readings), numbers_of(unit(net, number))):
                sure.append((number, pair_of(worth(fitting(net, readings)[1], unit(net, number)))))
        self.check(survey.sure(), tuple(sure))
        for weights in (unit(net, 0), costs_of(*[1] * len(net.ties)), costs_of(*[0] * len(net.ties))):
            value = survey.cost(weights)
            self.check(value, reckoned(net, readings, weights))
            self.assertIs(survey.shows_cost(weights, value), True)
            self.check(survey.next(weights), next_way(net, readings, weights))

    def do(self, survey, deed):
        if deed[0] == "read":
            self.assertIsNone(survey.read(deed[1], deed[2]))
        else:
            self.assertIsNone(survey.watch(deed[1]))


class AtWork(Deeds):

    def test_a_new_survey(self):
        for net in (STAR_NET, HOUSE_NET, FIVE, APART):
            survey = Survey(net)
            self.check_state(survey, net, [])
            self.check(survey.readings, ())
            self.assertEqual((survey.net, survey.first), (net, net))

    def test_example(self):
        survey = Survey(STAR_NET)
        deeds = [("read", AB, 5), ("read", AC, 6), ("watch", "m"), ("read", ("a", "m"), 2)]
        for many, deed in enumerate(deeds, start=1):
            self.do(survey, deed)
            self.check_state(survey, STAR_NET, deeds[:many])
        self.check(survey.sure(), ((0, (2, 1)), (1, (3, 1)), (2, (4, 1))))
        self.check(survey.cost(costs_of(1, 1, 1))[:2], ("sure", (9, 1)))

    def test_rows_of_drawn_deeds(self):
        draw = random.Random("deeds")
        for first in [STAR_NET, HOUSE_NET, RING, FIVE, *drawn_nets("deeds", 12, most=6)]:
            survey, deeds = Survey(first), []
            for _ in range(14):
                found = plain_ways(survey.net)
                others = [place for place in first.places if place not in survey.net.watchers]
                if others and draw.random() < 0.25:
                    deed = ("watch", draw.choice(others))
                elif not found:
                    continue
                else:
                    deed = ("read", draw.choice(found), draw.choice([0, 3, -4, 999999999, -123456789]))
                readings = survey.readings + (deed[1:],)
                if deed[0] == "read" and len(survey) == 10:
                    self.check(raised(Full, survey.read, *deed[1:]), 10)
                elif deed[0] == "read" and not some_fit(survey.net, readings):
                    self.assertTrue(tears(survey.net, readings, raised(Torn, survey.read, *deed[1:])))
                else:
                    self.do(survey, deed)
                    deeds.append(deed)
                self.check_state(survey, first, deeds)

    def test_ways_that_come_with_a_watcher(self):
        survey = Survey(HOUSE_NET)
        self.check(raised(BadWay, survey.read, ("a", "p"), 4), ("a", "p"))
        survey.read(("a", "p", "b"), 9)
        self.check(survey.next(unit(HOUSE_NET, 3)), ("more",))
        survey.watch("p")
        self.check(survey.next(unit(HOUSE_NET, 3)), ("way", ("a", "p")))
        survey.read(("a", "p"), 4)
        self.check(survey.sure(), ((3, (4, 1)), (4, (5, 1))))
        self.check(survey.readings, ((("a", "p", "b"), 9), (("a", "p"), 4)))
        self.assertEqual((survey.net, survey.first), (HOUSE_NET.with_watcher("p"), HOUSE_NET))

    def test_nets_stay(self):
        net = Net(STAR)
        survey = Survey(net)
        survey.watch("m")
        self.check((net.text, net.watchers), (STAR, ("a", "b", "c")))
        self.check(survey.net.watchers, ("a", "b", "c", "m"))
        self.check(survey.first.watchers, ("a", "b", "c"))

    def test_sums_of_nine_figures(self):
        survey = Survey(STAR_NET)
        for way, amount in ((AB, 999999999), (AC, -999999999), (BC, 1)):
            survey.read(way, amount)
        self.check(survey.sure(), ((0, (-1, 2)), (1, (1999999999, 2)), (2, (-1999999997, 2))))


class Refused(Deeds):

    def setUp(self):
        self.survey = Survey(STAR_NET)
        self.survey.read(AB, 5)
        self.survey.read(AC, 6)
        self.survey.undo()

    def refuses(self, error, value, call, *args):
        before = whole_state(self.survey)
        found = raised(error, call, *args)
        self.check(found, value)
        self.check(whole_state(self.survey), before)
        return found

    def test_bad_ways(self):
        for value in [*any_values(), AB[::-1], list(AB), ("a", "m"), ("a",), "a m b", ("a", "b"), AB + ("c",), (AB,)]:
            if not same(value, AB):
                for amount in (1, True, None):
                    self.assertIs(self.refuses(BadWay, value, self.survey.read, value, amount), value)

    def test_bad_numbers(self):
        for value in any_values():
            if isinstance(value, bool) or not isinstance(value, int):
                self.assertIs(self.refuses(BadNumber, value, self.survey.read, AC, value), value)
        self.refuses(BadNumber, (5, 1), self.survey.read, AB, (5, 1))

    def test_full(self):
        for _ in range(9):
            self.survey.read(AB, 5)
        self.assertEqual(len(self.survey), 10)
        self.survey.watch("m")
        self.survey.undo()
        self.refuses(Full, 10, self.survey.read, AB, 5)
        self.refuses(Full, 10, self.survey.read, AB, 6)
        self.refuses(Full, 10, self.survey.read, AC, 6)
        self.refuses(BadNumber, True, self.survey.read, AC, True)
        self.refuses(BadWay, ("a",), self.survey.read, ("a",), 1)

    def test_torn(self):
        before = whole_state(self.survey)
        numbers = raised(Torn, self.survey.read, AB, 6)
        self.assertTrue(tears(STAR_NET, ((AB, 5), (AB, 6)), numbers))
        self.assertIs(shows_fitting(STAR_NET, ((AB, 5), (AB, 6)), ("torn", numbers)), True)
        self.check(whole_state(self.survey), before)
        for way, amount in ((AC, 6), (BC, 7)):
            self.survey.read(way, amount)
        self.survey.watch("m")
        readings = self.survey.readings + ((("a", "m"), 3),)
        before = whole_state(self.survey)
        self.assertTrue(tears(self.survey.net, readings, raised(Torn, self.survey.read, ("a", "m"), 3)))
        self.check(whole_state(self.survey), before)
        self.assertIsNone(self.survey.read(("a", "m"), 2))

    def test_watch(self):
        for value in any_values() + ["q", "", ("m",), "M", ["m"], AB]:
            self.assertIs(self.refuses(NoPlace, value, self.survey.watch, value), value)
        for place in ("a", "b", "c"):
            self.refuses(Watches, place, self.survey.watch, place)
        self.survey.watch("m")
        self.refuses(Watches, "m", self.survey.watch, "m")

    def test_bad_weights(self):
        for value in no_costs(STAR_NET):
            self.assertIs(raised(BadWeights, self.survey.cost, value), value)
            self.assertIs(raised(BadWeights, self.survey.next, value), value)
            for shown in (None, ("sure", (0, 1), ((0, 1),))):
                self.assertIs(raised(BadWeights, self.survey.shows_cost, value, shown), value)

    def test_asking_changes_nothing(self):
        before = whole_state(self.survey)
        for _ in range(2):
            self.survey.cost(AM)
            self.survey.shows_cost(AM, None)
            self.survey.next(AM)
            self.survey.sure()
            journal(self.survey)
            self.survey.copy().read(BC, 7)
        self.check(whole_state(self.survey), before)


class ShowsCost(Checks):

    def test_what_it_takes(self):
        survey = Survey(STAR_NET)
        one, other = costs_of(2, 3, 4), costs_of(3, 2, 3)
        self.check_right(survey.shows_cost, AM, ("open", costs_of(1, 0, 0), costs_of(2, 0, 0)))
        survey.read(AB, 5)
        self.check_wrong(survey.shows_cost, AM, ("open", costs_of(1, 0, 0), costs_of(2, 0, 0)))
        survey.read(AC, 6)
        self.check_right(survey.shows_cost, AM, ("open", one, other))
        self.check_spoiled(survey.shows_cost, AM, ("open", one, other))
        survey.read(BC, 7)
        self.check_wrong(survey.shows_cost, AM, ("open", one, other))
        self.check_spoiled(survey.shows_cost, AM, ("sure", (2, 1), costs_of("1/2", "1/2", "-1/2")))
        for value in any_values():
            self.check_wrong(survey.shows_cost, AM, value)
        survey.undo()
        self.check_right(survey.shows_cost, AM, ("open", one, other))
        # The weights are told by the net now.
        survey.watch("m")
        survey.read(("a", "m"), 2)
        self.check_right(survey.shows_cost, AM, ("sure", (2, 1), costs_of(0, 0, 1)))


class UndoRedo(Deeds):

    DEEDS = [("read", AB, 5), ("watch", "m"), ("read", ("a", "m"), 2), ("read", AC, 6), ("read", AB, 5)]

    def setUp(self):
        self.survey = Survey(STAR_NET)

    def test_nothing_done(self):
        for _ in range(2):
            self.check(raised(NothingToUndo, self.survey.undo), None)
            self.check(raised(NothingToRedo, self.survey.redo), None)
            self.check_state(self.survey, STAR_NET, [])

    def test_all_taken_back_and_done_again(self):
        for deed in self.DEEDS:
            self.do(self.survey, deed)
        for _ in range(2):
            self.check(raised(NothingToRedo, self.survey.redo), None)
            for many in range(4, -1, -1):
                self.assertIsNone(self.survey.undo())
                self.check_state(self.survey, STAR_NET, self.DEEDS[:many])
            self.check(raised(NothingToUndo, self.survey.undo), None)
            for many in range(1, 6):
                self.assertIsNone(self.survey.redo())
                self.check_state(self.survey, STAR_NET, self.DEEDS[:many])
        self.check(raised(NothingToRedo, self.survey.redo), None)

    def test_a_watcher_taken_back(self):
        self.survey.watch("m")
        self.survey.undo()
        self.check(raised(BadWay, self.survey.read, ("a", "m"), 2), ("a", "m"))
        self.assertEqual(self.survey.net, STAR_NET)
        self.survey.redo()
        self.survey.read(("a", "m"), 2)
        self.check_state(self.survey, STAR_NET, [("watch", "m"), ("read", ("a", "m"), 2)])

    def test_a_deed_behind_an_undo(self):
        for deed in (("read", BC, 0), ("watch", "m"), ("read", AC, 6)):
            survey = Survey(STAR_NET)
            survey.read(AB, 5)
            survey.read(AC, 6)
            survey.undo()
            self.do(survey, deed)
            self.check(raised(NothingToRedo, survey.redo), None)
            self.check_state(survey, STAR_NET, [("read", AB, 5), deed])

    def test_a_refused_deed_behind_an_undo(self):
        self.survey.read(AB, 5)
        self.survey.read(AC, 6)
        self.survey.undo()
        raised(Torn, self.survey.read, AB, 6)
        raised(BadWay, self.survey.read, ("a",), 6)
        raised(BadNumber, self.survey.read, AC, True)
        raised(Watches, self.survey.watch, "a")
        raised(NoPlace, self.survey.watch, "z")
        self.survey.cost(AM)
        self.survey.redo()
        self.check_state(self.survey, STAR_NET, [("read", AB, 5), ("read", AC, 6)])

    def test_full_behind_an_undo(self):
        for _ in range(10):
            self.survey.read(AB, 5)
        self.survey.watch("m")
        self.survey.undo()
        self.check(raised(Full, self.survey.read, AB, 5), 10)
        self.survey.redo()
        self.assertIn("m", self.survey.net.watchers)
        self.survey.undo()
        self.survey.undo()
        self.survey.read(AC, 1)
        self.assertEqual((len(self.survey), self.survey.done), (10, 10))

    def test_what_was_taken_back_leaves_nothing(self):
        self.survey.read(AB, 5)
        self.survey.undo()
        self.assertIsNone(self.survey.read(AB, 6))
        self.check(self.survey.readings, ((AB, 6),))

    def test_drawn_rows(self):
        draw = random.Random("undo")
        for first in [STAR_NET, HOUSE_NET, *drawn_nets("undo", 10, least=4, most=5)]:
            survey, deeds, back = Survey(first), [], []
            for _ in range(40):
                kind = draw.choice(["read", "read", "watch", "undo", "undo", "redo"])
                found = plain_ways(survey.net)
                others = [place for place in first.places if place not in survey.net.watchers]
                if kind == "undo" and not deeds:
                    self.check(raised(NothingToUndo, survey.undo), None)
                elif kind == "undo":
                    survey.undo()
                    back.append(deeds.pop())
                elif kind == "redo" and not back:
                    self.check(raised(NothingToRedo, survey.redo), None)
                elif kind == "redo":
                    survey.redo()
                    deeds.append(back.pop())
                elif kind == "watch" and others:
                    deeds.append(("watch", draw.choice(others)))
                    back = []
                    self.do(survey, deeds[-1])
                elif kind == "read" and found and len(survey) < 10:
                    way = draw.choice(found)
                    deed = ("read", way, sum((number + 1) * one for number, one in enumerate(plain_row(first, way))))
                    deeds.append(deed)
                    back = []
                    self.do(survey, deed)
                self.check((survey.done, len(survey)), (len(deeds), sum(deed[0] == "read" for deed in deeds)))
            self.check_state(survey, first, deeds)
            while back:
                survey.redo()
                deeds.append(back.pop())
            self.check_state(survey, first, deeds)
            self.check(raised(NothingToRedo, survey.redo), None)


class Copies(Deeds):

    def setUp(self):
        self.survey = Survey(STAR_NET)
        for deed in UndoRedo.DEEDS:
            self.do(self.survey, deed)
        self.survey.undo()
        self.survey.undo()

    def test_alike_in_all_things(self):
        other = self.survey.copy()
        self.assertIsNot(other, self.survey)
        self.assertIsInstance(other, Survey)
        self.assertEqual(other, self.survey)
        self.check(whole_state(other), whole_state(self.survey))
        other.redo()
        other.redo()
        self.check_state(other, STAR_NET, UndoRedo.DEEDS)
        self.check(raised(NothingToRedo, other.redo), None)

    def test_independent(self):
        for change in (lambda one: one.read(AB, 5), lambda one: one.undo(), lambda one: one.redo(), lambda one: one.read(BC, 7)):
            for turned in (False, True):
                one, other = self.survey.copy(), self.survey.copy()
                other = one.copy()
                if turned:
                    one, other = other, one
                before = whole_state(other)
                change(one)
                self.check(whole_state(other), before)
                self.assertNotEqual(one, other)

    def test_a_copy_of_a_new_one(self):
        other = Survey(STAR_NET).copy()
        self.check_state(other, STAR_NET, [])
        self.check(raised(NothingToUndo, other.undo), None)


class Equality(Checks):

    def test_by_their_journals(self):
        one, other = Survey(Net(STAR)), Survey(Net(STAR))
        self.assertTrue(one == other and not one != other)
        one.read(AB, 5)
        self.assertTrue(one != other and not one == other)
        other.read(AB, 6)
        self.assertNotEqual(one, other)
        other.undo()
        other.read(AB, 5)
        self.assertEqual(one, other)
        one.watch("m")
        one.undo()
        # What can be done again is not told by the journal.
        self.assertEqual(one, other)
        one.redo()
        self.assertNotEqual(one, other)

    def test_the_sequence_counts(self):
        one, other = Survey(STAR_NET), Survey(STAR_NET)
        one.read(AB, 5)
        one.watch("m")
        other.watch("m")
        other.read(AB, 5)
        self.check(one.readings, other.readings)
        self.assertEqual(one.net, other.net)
        self.assertNotEqual(one, other)

    def test_the_net_at_first_counts(self):
        one, other = Survey(STAR_NET), Survey(STAR_NET.with_watcher("m"))
        one.watch("m")
        self.assertEqual(one.net, other.net)
        self.assertNotEqual(one, other)
        self.assertNotEqual(Survey(STAR_NET), Survey(HOUSE_NET))

    def test_with_values_of_any_kind(self):
        survey = Survey(STAR_NET)
        for value in any_values() + [STAR_NET, STAR, journal(survey), [survey], (survey,), survey.readings]:
            self.assertFalse(survey == value)
            self.assertTrue(survey != value)
            self.assertFalse(value == survey)
        self.assertTrue(survey == survey)

    def test_as_values_handed_in(self):
        survey = Survey(STAR_NET)
        for call in (survey.watch, survey.cost, survey.next):
            for value in (survey, (survey,), [survey]):
                error = NoPlace if call == survey.watch else BadWeights
                self.assertIs(raised(error, call, value), value)
        self.assertIs(raised(BadWay, survey.read, survey, 1), survey)
        self.assertIs(raised(BadNumber, survey.read, AB, survey), survey)
        self.check_wrong(survey.shows_cost, AM, survey)


class Calls(Checks):

    def test_by_names(self):
        survey = Survey(net=STAR_NET)
        self.assertIsNone(survey.read(amount=5, way=AB))
        self.assertIsNone(survey.watch(place="m"))
        self.check(survey.cost(weights=AM), survey.cost(AM))
        self.check(survey.next(weights=AM), survey.next(AM))
        self.check_right(lambda value: survey.shows_cost(value=value, weights=AM), survey.cost(AM))

    def test_equal_calls(self):
        survey, again = Survey(STAR_NET), Survey(Net(STAR))
        for one in (survey, again):
            one.read(AB, 5)
            one.read(AC, 6)
        for _ in range(2):
            for weights in (AM, costs_of(0, 1, -1), costs_of(1, 1, 1)):
                self.check(survey.cost(weights), again.cost(tuple(list(weights))))
                self.check(survey.next(weights), again.next(weights))
            self.check(survey.sure(), again.sure())
            raised(Torn, survey.read, AB, 6)
            self.check(raised(Torn, survey.read, AB, 6), raised(Torn, again.read, AB, 6))

    def test_what_is_handed_in_stays(self):
        survey = Survey(STAR_NET)
        for value in ([[1, 1]] * 3, ["a", ["m"]], {"a": [1]}):
            before = copy.deepcopy(value)
            raised(BadWay, survey.read, value, value)
            raised(BadNumber, survey.read, AB, value)
            raised(BadWeights, survey.cost, value)
            raised(NoPlace, survey.watch, value)
            self.check_wrong(survey.shows_cost, AM, value)
            self.check(value, before)

    def test_attributes_are_set_when_it_is_made(self):
        survey = Survey(STAR_NET)
        self.assertLessEqual({"net", "first", "readings", "done"}, set(vars(survey)))

    def test_time(self):
        start = time.monotonic()
        draw = random.Random("time")
        for net in BOUNDS:
            survey = Survey(net)
            costs = [draw.randint(-10 ** 8, 10 ** 8) for _ in net.ties]
            found = ways(net)
            for _ in range(10):
                way = draw.choice(found)
                survey.read(way, sum(cost * one for cost, one in zip(costs, plain_row(net, way))))
                survey.sure()
                for number in range(len(net)):
                    survey.cost(unit(net, number))
                    survey.next(unit(net, number))
            self.assertEqual(read_journal(journal(survey)), survey)
            self.assertEqual([number_of(worth) for number, worth in survey.sure()], [costs[number] for number, worth in survey.sure()])
        self.assertLess(time.monotonic() - start, 10)


if __name__ == "__main__":
    unittest.main()

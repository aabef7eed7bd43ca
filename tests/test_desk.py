"""Point 15: a desk: the lines that it takes, its answers, and what it refuses."""

import random
import unittest

from plain import drawn_nets, plain_row, plain_sure
from samples import BOUNDS, FIVE, HOUSE, STAR, Checks, any_values, nested, raised
from standing import whole_state
from tiesums.desk import Desk
from tiesums.errors import (BadJournal, BadLine, BadWay, Full, NoPlace, NoTie, NothingToRedo, NothingToUndo, Torn, Watches)
from tiesums.journals import journal, read_journal
from tiesums.nets import Net
from tiesums.surveys import Survey
from tiesums.ways import ways

HEAD = STAR + "\nsurvey"
STAR_NET = Net(STAR)
AB, AC, BC = ways(STAR_NET)


class Answers(Checks):

    def setUp(self):
        self.desk = Desk(HEAD)

    def says(self, **rows):
        for line, answer in rows.items():
            self.check(self.desk.say(line), answer)

    def test_a_new_desk(self):
        self.assertEqual(self.desk.survey, Survey(STAR_NET))
        self.assertEqual(Desk(text=HEAD + "\nwatch m").survey.net, STAR_NET.with_watcher("m"))
        self.check(Desk(HEAD).say(line="watchers"), "a b c")

    def test_deeds(self):
        self.check(self.desk.say("read 5 a m b"), "ok")
        self.check(self.desk.survey.readings, ((AB, 5),))
        self.check(self.desk.say("watch m"), "ok")
        self.check(self.desk.survey.net.watchers, ("a", "b", "c", "m"))
        self.check(self.desk.say("undo"), "ok")
        self.assertEqual((self.desk.survey.done, self.desk.survey.net), (1, STAR_NET))
        self.check(self.desk.say("redo"), "ok")
        self.check(journal(self.desk.survey), HEAD + "\nread 5 a m b\nwatch m")

    def test_sums(self):
        for amount in (0, -1, 999999999, -999999999):
            desk = Desk(HEAD)
            self.check(desk.say(f"read {amount} a m b"), "ok")
            self.check(desk.survey.readings, ((AB, amount),))

    def test_cost(self):
        self.check(self.desk.say("cost a m"), "open")
        for line in ("read 5 a m b", "read 6 a m c", "read 8 b m c"):
            self.desk.say(line)
        self.says(**{"cost a m": "3/2", "cost b m": "7/2", "cost c m": "9/2"})
        self.desk.say("undo")
        self.says(**{"cost a m": "open", "cost b m": "open"})
        self.desk.say("watch m")
        self.desk.say("read 0 a m")
        self.says(**{"cost a m": "0/1", "cost b m": "5/1", "cost c m": "6/1"})
        desk = Desk(HEAD + "\nwatch m\nread -7 a m")
        self.check(desk.say("cost a m"), "-7/1")

    def test_told(self):
        self.says(told="0 1 2")
        desk = Desk(HOUSE + "\nsurvey")
        self.check(desk.say("told"), "0 1 2")
        desk.say("watch p")
        self.check(desk.say("told"), "0 1 2 3 4")
        desk.say("undo")
        self.check(desk.say("told"), "0 1 2")
        self.check(Desk("places a b c\nwatchers a b\ntie a c\nsurvey").say("told"), "")

    def test_told_is_not_sure(self):
        # What the net tells need not be read yet.
        self.says(told="0 1 2", sure="")

    def test_sure(self):
        self.check(self.desk.say("sure"), "")
        self.desk.say("watch m")
        self.desk.say("read -2 a m")
        self.check(self.desk.say("sure"), "0=-2/1")
        self.desk.say("read 5 b m c")
        self.check(self.desk.say("sure"), "0=-2/1")
        self.desk.say("read 6 a m b")
        self.check(self.desk.say("sure"), "0=-2/1 1=8/1 2=-3/1")
        desk = Desk(HEAD + "\nread 0 a m b\nread 1 a m c\nread 0 b m c")
        self.check(desk.say("sure"), "0=1/2 1=-1/2 2=1/2")

    def test_watchers(self):
        self.check(self.desk.say("watchers"), "a b c")
        self.desk.say("watch m")
        self.check(self.desk.say("watchers"), "a b c m")
        self.check(Desk("places z y x\nwatchers z x\ntie z x\nsurvey\nwatch y").say("watchers"), "z y x")

    def test_drawn_rows(self):
        draw = random.Random("desk")
        for first in [STAR_NET, Net(HOUSE), FIVE, *BOUNDS, *drawn_nets("desk", 15, most=6)]:
            desk, survey = Desk(journal(Survey(first))), Survey(first)
            costs = [draw.randint(-10 ** 8, 10 ** 8) for _ in first.ties]
            for _ in range(14):
                found = ways(survey.net)
                others = [place for place in first.places if place not in survey.net.watchers]
                kind = draw.choice(["watch", "read", "read", "read", "undo", "redo"])
                if kind == "watch" and others:
                    place = draw.choice(others)
                    survey.watch(place)
                    self.check(desk.say("watch " + place), "ok")
                elif kind == "read" and found and len(survey) < 10:
                    way = draw.choice(found)
                    amount = sum(cost * one for cost, one in zip(costs, plain_row(first, way)))
                    survey.read(way, amount)
                    self.check(desk.say(f"read {amount} " + " ".join(way)), "ok")
                elif kind == "undo" and survey.done:
                    survey.undo()
                    self.check(desk.say("undo"), "ok")
                self.assertEqual(desk.survey, survey)
                self.check(desk.say("watchers"), " ".join(survey.net.watchers))
            self.check(desk.say("told"), " ".join(map(str, plain_sure(survey.net))))
            sure = dict(survey.sure())
            self.check(desk.say("sure"), " ".join(f"{number}={top}/{low}" for number, (top, low) in sure.items()))
            for number, (one, other) in enumerate(first.ties):
                top, low = sure.get(number, (None, None))
                self.check(desk.say(f"cost {one} {other}"), f"{top}/{low}" if top is not None else "open")
            self.assertEqual(read_journal(journal(desk.survey)), survey)

    def test_the_survey_is_worked_on_from_elsewhere(self):
        self.desk.survey.read(AB, 5)
        self.check(self.desk.say("undo"), "ok")
        self.check(self.desk.survey.readings, ())
        with self.desk.survey.trial():
            self.check(self.desk.say("read 5 a m b"), "ok")
            self.assertEqual(len(self.desk.survey), 1)
        self.assertEqual(len(self.desk.survey), 0)

    def test_two_desks(self):
        other = Desk(HEAD)
        other.say("watch m")
        self.check(self.desk.say("watchers"), "a b c")

    def test_attributes_are_set_when_it_is_made(self):
        self.assertIn("survey", vars(self.desk))


class Refused(Checks):

    def setUp(self):
        self.desk = Desk(HEAD + "\nread 5 a m b\nread 6 a m c\nwatch m")
        self.desk.say("undo")
        self.before = whole_state(self.desk.survey)

    def refuses(self, error, line, value):
        self.check(raised(error, self.desk.say, line), value)
        self.check(whole_state(self.desk.survey), self.before)

    def test_bad_journals(self):
        for text, number in (("", 2), (STAR, 6), ("survey", 1), (HEAD + "\nx", 7), (None, 0), (7, 0), ([HEAD], 0), (True, 0),
                             (HEAD + "\nread 5 a m b\nread 6 a m b", 8), ("places a b\nsurvey", 1)):
            self.check(raised(BadJournal, Desk, text), number)

    def test_values_that_are_no_lines(self):
        for value in any_values() + [nested(30), self.desk, self.desk.survey, ["undo"], ("undo",), {"undo": 1}, b"undo"]:
            self.assertIs(raised(BadLine, self.desk.say, value), value)
        self.check(whole_state(self.desk.survey), self.before)

    def test_lines_of_no_form(self):
        lines = ["", " ", "  ", "undo ", " undo", "undo now", "undo undo", "redo ", " redo", "redo 1", "told ", " told", "told a", "told a m",
                 "sure ", "sure a m", "watchers ", "watchers a", "watchers a b c", "survey", "journal", "Undo", "UNDO", "undos", "keep",
                 "trial", "copy", "next a m", "cost", "cost ", "cost a", "cost a ", "cost  a m", "cost a  m", "cost a m ", " cost a m",
                 "cost a m b", "cost a m m", "costs a m", "Cost a m", "watch", "watch ", "watch  m", "watch m ", " watch m", "watch m m",
                 "read", "read ", "read 5", "read 5 ", "read a m b", "read 5  a m b", "read  5 a m b", "read 5 a m b ", " read 5 a m b",
                 "read 5 a  m b", "read a 5 m b", "read five a m b", "places a b c m", "tie a m", "a m b", "5", "ok", "open"]
        lines += ["\n", "undo\n", "\nundo", "undo\nundo", "read 5 a m b\n", "cost a\nm", "watch m\nundo", "told\n", "cost a m\n", "watch \n",
                  "cost \n m"]
        for line in lines:
            self.refuses(BadLine, line, line)

    def test_numbers_as_python_does_not_write_them(self):
        for number in ("+5", "05", "-0", "1_0", "5.0", "0x5", "5e0", "--5", "-", "+", "-05", "00", "5-", "True", "", "_5", "5_"):
            self.refuses(BadLine, f"read {number} a m b", f"read {number} a m b")

    def test_names_that_are_none(self):
        self.refuses(BadWay, "read 5 a b", ("a", "b"))
        self.refuses(BadWay, "read 5 b m a", ("b", "m", "a"))
        self.refuses(BadWay, "read 5 a", ("a",))
        self.refuses(BadWay, "read 5 A! 7 ?", ("A!", "7", "?"))
        self.refuses(BadWay, "read 5 5 a m b", ("5", "a", "m", "b"))
        self.refuses(BadWay, "read 5 a m", ("a", "m"))
        self.refuses(NoPlace, "watch x", "x")
        self.refuses(NoPlace, "watch 5", "5")
        self.refuses(NoPlace, "watch a,b", "a,b")
        self.refuses(Watches, "watch a", "a")
        for pair in (("m", "a"), ("a", "b"), ("a", "a"), ("x", "y"), ("5", "-"), ("A", "m")):
            self.refuses(NoTie, "cost " + " ".join(pair), pair)

    def test_deeds_that_the_survey_refuses(self):
        self.check(raised(Torn, self.desk.say, "read 6 a m b"), raised(Torn, self.desk.survey.read, AB, 6))
        for line in ("redo", "undo", "undo", "undo"):
            self.desk.say(line)
        self.check(raised(NothingToUndo, self.desk.say, "undo"), None)
        for _ in range(10):
            self.desk.say("read 5 a m b")
        self.check(raised(Full, self.desk.say, "read 5 a m b"), 10)
        self.check(raised(NothingToRedo, self.desk.say, "redo"), None)

    def test_a_new_watcher_changes_what_is_refused(self):
        self.desk.say("redo")
        self.check(self.desk.say("read 2 a m"), "ok")
        self.check(raised(Watches, self.desk.say, "watch m"), "m")

    def test_asking_changes_nothing(self):
        for line in ("cost a m", "told", "sure", "watchers", "cost b m"):
            for _ in range(2):
                self.assertIsInstance(self.desk.say(line), str)
                self.check(whole_state(self.desk.survey), self.before)
        self.check(self.desk.say("redo"), "ok")


if __name__ == "__main__":
    unittest.main()

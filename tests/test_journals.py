"""Point 15: journals, written and read back, and the number of the first line that is wrong."""

import random
import unittest

from plain import drawn_nets, net_of, plain_row
from samples import FIVE, FULL, HOUSE, STAR, Checks, any_values, raised
from standing import whole_state
from tiesums.errors import (BadJournal, BadNet, NothingToRedo, NothingToUndo, TieError)
from tiesums.journals import journal, read_journal
from tiesums.nets import Net
from tiesums.surveys import Survey
from tiesums.ways import ways

HOUSE_NET, STAR_NET = Net(HOUSE), Net(STAR)
AB, AC, BC = ways(STAR_NET)
HEAD = STAR + "\nsurvey"
LINES = ["read 5 a m b", "read 6 a m c", "watch m", "read 2 a m"]
# The number of the first line behind those of the net and the line survey.
FIRST = 7


def text_of(*lines):
    return "\n".join([HEAD, *lines])


class Journal(Checks):

    def setUp(self):
        self.survey = Survey(STAR_NET)

    def test_a_new_survey(self):
        self.check(journal(self.survey), HEAD)
        self.check(journal(Survey(HOUSE_NET)), HOUSE + "\nsurvey")

    def test_deeds(self):
        self.survey.read(AB, 5)
        self.check(journal(self.survey), text_of("read 5 a m b"))
        self.survey.read(AC, 6)
        self.survey.watch("m")
        self.survey.read(("a", "m"), 2)
        self.check(journal(self.survey), text_of(*LINES))

    def test_the_net_as_it_was_at_first(self):
        self.survey.watch("m")
        self.check(journal(self.survey).split("\n")[1], "watchers a b c")
        self.check(journal(self.survey), text_of("watch m"))

    def test_refused_deeds(self):
        self.survey.read(AB, 5)
        for call in ((self.survey.read, AB, 6), (self.survey.read, ("a",), 6), (self.survey.read, AB, True),
                     (self.survey.watch, "a"), (self.survey.watch, "z"), (self.survey.redo,), (self.survey.keep,)):
            self.assertRaises(TieError, *call)
            self.check(journal(self.survey), text_of("read 5 a m b"))

    def test_undo_and_redo(self):
        self.survey.read(AB, 5)
        self.survey.watch("m")
        self.survey.undo()
        self.check(journal(self.survey), text_of("read 5 a m b"))
        self.survey.redo()
        self.check(journal(self.survey), text_of("read 5 a m b", "watch m"))
        self.survey.undo()
        self.survey.undo()
        self.check(journal(self.survey), HEAD)
        self.survey.read(BC, 7)
        self.check(journal(self.survey), text_of("read 7 b m c"))

    def test_trials(self):
        with self.survey.trial() as held:
            held.read(AB, 5)
            self.check(journal(self.survey), text_of("read 5 a m b"))
        self.check(journal(self.survey), HEAD)

    def test_sums(self):
        for amount in (0, -1, 1, 999999999, -999999999, 10 ** 12 - 1):
            survey = Survey(STAR_NET)
            survey.read(AB, amount)
            self.check(journal(survey), text_of(f"read {amount} a m b"))
            self.check(read_journal(journal(survey)).readings, ((AB, amount),))

    def test_names_of_several_letters(self):
        net = net_of(["north", "survey", "read", "x"], ["north", "read"], [("north", "survey"), ("survey", "read")])
        survey = Survey(net)
        survey.read(("north", "survey", "read"), 3)
        survey.watch("survey")
        self.check(journal(survey).split("\n")[4:], ["survey", "read 3 north survey read", "watch survey"])
        self.assertEqual(read_journal(journal(survey)), survey)

    def test_by_names(self):
        self.check(journal(survey=self.survey), HEAD)
        self.assertEqual(read_journal(text=HEAD), self.survey)


class ReadBack(Checks):

    def check_back(self, survey):
        text = journal(survey)
        found = read_journal(text)
        self.assertIsInstance(found, Survey)
        self.assertEqual(found, survey)
        self.check(journal(found), text)
        self.check((found.readings, found.done, found.sure()), (survey.readings, survey.done, survey.sure()))
        self.assertEqual((found.net, found.first), (survey.net, survey.first))
        self.check(raised(NothingToRedo, found.redo), None)
        one = survey.copy()
        for many in range(survey.done, 0, -1):
            self.assertEqual(found.done, many)
            found.undo()
            one.undo()
            self.assertEqual(found, one)
        self.check(raised(NothingToUndo, found.undo), None)
        self.assertEqual(read_journal(text), read_journal(text))

    def test_drawn_rows(self):
        draw = random.Random("journals")
        for first in [STAR_NET, HOUSE_NET, FIVE, FULL, *drawn_nets("journals", 25, most=7)]:
            survey = Survey(first)
            costs = [draw.randint(-10 ** 8, 10 ** 8) for _ in first.ties]
            for _ in range(13):
                found = ways(survey.net)
                others = [place for place in first.places if place not in survey.net.watchers]
                if others and draw.random() < 0.3:
                    survey.watch(draw.choice(others))
                elif found and len(survey) < 10:
                    way = draw.choice(found)
                    survey.read(way, sum(cost * one for cost, one in zip(costs, plain_row(first, way))))
                if draw.random() < 0.3 and survey.done:
                    survey.undo()
            self.check_back(survey)

    def test_what_can_be_done_again_is_not_told(self):
        survey = Survey(STAR_NET)
        survey.read(AB, 5)
        survey.read(AC, 6)
        survey.undo()
        self.check_back(survey)

    def test_ten_readings_of_nine_figures(self):
        survey = Survey(STAR_NET)
        for _ in range(10):
            survey.read(AB, -999999999)
        self.check_back(survey)
        self.check(raised(BadJournal, read_journal, journal(survey) + "\nread -999999999 a m b"), 17)
        self.assertEqual(read_journal(journal(survey) + "\nwatch m").done, 11)


class Wrong(Checks):

    def check_wrong_line(self, text, number):
        self.check(raised(BadJournal, read_journal, text), number)

    def test_no_strings(self):
        for value in any_values() + [list(LINES), b"survey", Survey(STAR_NET), (HEAD,)]:
            if not isinstance(value, str):
                self.check_wrong_line(value, 0)

    def test_no_line_survey(self):
        self.check_wrong_line("", 2)
        self.check_wrong_line(STAR, 6)
        self.check_wrong_line("\n", 3)
        self.check_wrong_line("places a b c", 2)
        self.check_wrong_line("nothing\nat all", 3)
        self.check_wrong_line(STAR + "\nsurvey ", 7)
        self.check_wrong_line(STAR + "\n survey", 7)
        self.check_wrong_line(STAR + "\nSurvey\nread 5 a m b", 8)
        self.check_wrong_line(STAR + "\nread 5 a m b", 7)
        self.check_wrong_line(STAR + "\nsurveys", 7)
        self.check_wrong_line(STAR + "\nsurvey now", 7)
        for value in any_values():
            if isinstance(value, str):
                self.check_wrong_line(value, len(value.split("\n")) + 1)

    def test_survey_as_the_first_line(self):
        self.check_wrong_line("survey", 1)
        self.check_wrong_line("survey\n" + STAR, 1)
        self.check_wrong_line("survey\nread 5 a m b\nsurvey", 1)
        self.check_wrong_line("survey\n" + HEAD, 1)

    def test_lines_of_the_net(self):
        rows = HEAD.split("\n")
        self.check_wrong_line("\n" + HEAD, 1)
        self.check_wrong_line("places a b c m\nsurvey", 2)
        self.check_wrong_line("places a b c m\nwatchers a b c\nsurvey", 3)
        self.check_wrong_line("places a b\nsurvey", 1)
        for at in range(5):
            for wrong in ("", "place a b c m", rows[at] + " ", " " + rows[at], rows[at].upper(), rows[at] + " a", "tie a b c", "survey x"):
                self.check_wrong_line("\n".join(rows[:at] + [wrong] + rows[at + 1:]), at + 1)
        self.check_wrong_line("\n".join(rows[:4] + rows[3:4] + rows[4:]), 5)
        self.check_wrong_line(STAR + "\n\nsurvey", 6)

    def test_it_is_what_bad_net_tells(self):
        draw = random.Random("nets")
        lines = STAR.split("\n") + ["", "tie a b", "tie m c", "tie a m", "watchers a b", "places a b c", "x"]
        for _ in range(300):
            some = [draw.choice(lines) for _ in range(draw.randint(1, 6))]
            try:
                Net("\n".join(some))
            except BadNet as why:
                self.check_wrong_line("\n".join(some + ["survey", "x"]), why.value)
            else:
                self.check_wrong_line("\n".join(some + ["survey", "x"]), len(some) + 2)

    def test_the_net_is_wrong_ahead_of_the_deeds(self):
        self.check_wrong_line("places a b\nsurvey\nx", 1)
        self.check_wrong_line(STAR + "\ntie a m\nsurvey\nread x", 6)

    def test_survey_twice(self):
        self.check_wrong_line(HEAD + "\nsurvey", 7)
        self.check_wrong_line(text_of(*LINES, "survey"), 11)

    def test_lines_of_no_form(self):
        for wrong in ("", " ", "read", "read 5", "read a m b", "read 5 a", "read 5 a m b ", " read 5 a m b", "read  5 a m b",
                      "read 5  a m b", "read 5 a  m b", "read 5 a m b c", "read 5 5 a m b", "Read 5 a m b", "reads 5 a m b",
                      "watch", "watch ", "watch  m", " watch m", "watch m ", "watch m m", "watch m b", "Watch m", "watching m", "undo",
                      "redo", "cost a m", "told", "sure", "watchers", "tie a b", "places a b c", "watchers a b c", "read\n5 a m b",
                      "read,5,a,m,b", "read 5 a,m,b", "5 a m b", "watch 5"):
            for at in range(len(LINES) + 1):
                self.check_wrong_line(text_of(*LINES[:at], wrong, *LINES[at:]), FIRST + at)

    def test_line_feeds_at_the_end(self):
        self.check_wrong_line(HEAD + "\n", 7)
        self.check_wrong_line(HEAD + "\n\n", 7)
        self.check_wrong_line(text_of(*LINES) + "\n", 11)

    def test_numbers_as_python_does_not_write_them(self):
        for number in ("+5", "05", "-0", "1_0", "5.0", "5.", "0x5", "5e0", "--5", "-", "+", "-05", "00", "5-", "five", "True", "0b1", "(5)",
                       "5,", "1 0", "", "_5", "5_", "-_5", "- 5", "1e3", "'5'", "5L"):
            self.check_wrong_line(text_of(f"read {number} a m b"), FIRST)
        for number in ("5", "0", "-5", "10", "-10", "999999999", "-999999999"):
            self.check(read_journal(text_of(f"read {number} a m b")).readings, ((AB, int(number)),))

    def test_ways_that_are_none(self):
        for names in ("b m a", "a b", "a m", "a", "a m m b", "m", "a m x", "A m b", "a m b a", "amb", "a m c b"):
            self.check_wrong_line(text_of(f"read 5 {names}"), FIRST)
        self.check_wrong_line(text_of("read 5 a m", "watch m"), FIRST)
        self.check(read_journal(text_of("watch m", "read 5 a m")).done, 2)

    def test_torn_readings(self):
        self.check_wrong_line(text_of("read 5 a m b", "read 6 a m b"), FIRST + 1)
        self.check_wrong_line(text_of("read 5 a m b", "watch m", "read 6 a m c", "read 7 b m c", "read 3 a m", "x"), FIRST + 4)

    def test_the_eleventh_reading(self):
        self.check_wrong_line(text_of(*["read 5 a m b"] * 11), FIRST + 10)
        self.check_wrong_line(text_of(*["read 5 a m b"] * 5, "watch m", *["read 5 a m b"] * 6), FIRST + 11)
        self.check(len(read_journal(text_of(*["read 5 a m b"] * 10))), 10)

    def test_watchers(self):
        self.check_wrong_line(text_of("watch a"), FIRST)
        self.check_wrong_line(text_of("watch m", "watch m"), FIRST + 1)
        for name in ("x", "M", "mm", "5", "-", "read"):
            self.check_wrong_line(text_of("watch " + name), FIRST)

    def test_the_first_of_several(self):
        self.check_wrong_line(text_of("read 5 a m b", "x", "read 6 a m b"), FIRST + 1)
        self.check_wrong_line(text_of("read 5 a m b", "read 6 a m b", "x"), FIRST + 1)

    def test_each_line_left_out_or_changed(self):
        draw = random.Random("changed")
        rows = text_of(*LINES).split("\n")
        for _ in range(300):
            at = draw.randrange(len(rows))
            sign = draw.choice(" abm5-x\n")
            line = rows[at]
            cut = draw.randint(0, len(line))
            text = "\n".join(rows[:at] + [line[:cut] + sign + line[cut + draw.randint(0, 1):]] + rows[at + 1:])
            self.check_text(text)

    def check_text(self, text):
        """What the document says of the text, step by step."""
        lines = text.split("\n")
        if "survey" not in lines:
            self.check_wrong_line(text, len(lines) + 1)
            return
        at = lines.index("survey")
        try:
            survey = Survey(Net("\n".join(lines[:at])))
        except BadNet as why:
            self.check_wrong_line(text, why.value)
            return
        for number, line in enumerate(lines[at + 1:], start=at + 2):
            words = line.split(" ")
            try:
                if words[0] == "read" and str(int(words[1])) == words[1]:
                    survey.read(tuple(words[2:]), int(words[1]))
                elif words[0] == "watch" and len(words) == 2:
                    survey.watch(words[1])
                else:
                    raise ValueError
            except (ValueError, IndexError):
                self.check_wrong_line(text, number)
                return
        self.assertEqual(read_journal(text), survey)
        self.check(whole_state(read_journal(text)), whole_state(survey))


if __name__ == "__main__":
    unittest.main()

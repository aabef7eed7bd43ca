"""Point 14: blocks within which a survey is changed for a trial, kept or not, and tried."""

import random
import unittest

from plain import drawn_nets, plain_row, plain_ways, unit
from samples import HOUSE, STAR, Checks, any_values, raised
from standing import state_of, whole_state
from tiesums.errors import BadNumber, BadWay, NoTrial, NothingToRedo, NothingToUndo, TieError, Torn, Watches
from tiesums.journals import journal
from tiesums.nets import Net
from tiesums.surveys import Survey
from tiesums.ways import ways

HOUSE_NET, STAR_NET = Net(HOUSE), Net(STAR)
AB, AC, BC = ways(STAR_NET)


class Stop(Exception):
    """An error that is none of the package."""


def a_survey():
    """A survey with two deeds that stand, and two that can be done again."""
    survey = Survey(STAR_NET)
    survey.read(AB, 5)
    survey.watch("m")
    survey.read(("a", "m"), 2)
    survey.read(AC, 6)
    survey.undo()
    survey.undo()
    return survey


class Blocks(Checks):

    def setUp(self):
        self.survey = a_survey()
        self.before = whole_state(self.survey)

    def check_stays(self):
        self.check(whole_state(self.survey), self.before)
        self.check(raised(NoTrial, self.survey.keep), None)

    def change(self):
        self.survey.read(BC, 7)
        self.survey.read(AC, 6)

    def test_held_is_the_survey_itself(self):
        with self.survey.trial() as held:
            self.assertIs(held, self.survey)
        self.check_stays()

    def test_not_kept(self):
        with self.survey.trial():
            self.change()
            self.assertEqual(self.survey.done, 4)
            self.check(self.survey.sure(), ((0, (2, 1)), (1, (3, 1)), (2, (4, 1))))
        self.check_stays()

    def test_kept(self):
        with self.survey.trial():
            self.change()
            self.assertIsNone(self.survey.keep())
            inside = whole_state(self.survey)
        self.check(whole_state(self.survey), inside)
        self.assertEqual(self.survey.done, 4)
        self.check(raised(NoTrial, self.survey.keep), None)
        self.check(raised(NothingToRedo, self.survey.redo), None)

    def test_keep_called_early(self):
        with self.survey.trial() as held:
            held.keep()
            self.change()
        self.check(self.survey.readings, ((AB, 5), (BC, 7), (AC, 6)))
        with self.survey.trial() as held:
            held.undo()
            held.keep()
            held.keep()
            held.undo()
        self.check(self.survey.readings, ((AB, 5),))

    def test_keep_without_deeds(self):
        with self.survey.trial() as held:
            held.keep()
        self.check_stays()

    def test_left_by_an_error(self):
        for error in (Stop, ValueError, KeyboardInterrupt, GeneratorExit):
            with self.assertRaises(error):
                with self.survey.trial():
                    self.change()
                    raise error
            self.check_stays()

    def test_kept_and_left_by_an_error(self):
        for error in (Stop(), TieError(1), Torn(())):
            with self.assertRaises(type(error)) as caught:
                with self.survey.trial() as held:
                    held.keep()
                    self.change()
                    held.keep()
                    raise error
            self.assertIs(caught.exception, error)
            self.check_stays()

    def test_left_by_an_error_of_the_survey(self):
        with self.assertRaises(Torn):
            with self.survey.trial() as held:
                held.keep()
                held.read(AB, 6)
        self.check_stays()

    def test_an_error_that_is_caught_within(self):
        with self.survey.trial() as held:
            held.keep()
            raised(Torn, held.read, AB, 6)
            raised(BadWay, held.read, ("a",), 6)
            held.read(AC, 6)
        self.check(self.survey.readings, ((AB, 5), (AC, 6)))

    def test_left_by_return_break_and_continue(self):
        def leave():
            with self.survey.trial() as held:
                held.read(AC, 6)
                return held.done
        self.assertEqual(leave(), 3)
        self.check_stays()
        for number in range(2):
            with self.survey.trial() as held:
                held.read(AC, 6)
                if number:
                    break
                continue
        self.check_stays()

    def test_a_watcher_on_trial(self):
        self.survey.undo()
        before = whole_state(self.survey)
        with self.survey.trial() as held:
            held.watch("m")
            held.read(("a", "m"), 1)
        self.check(whole_state(self.survey), before)
        self.check(raised(BadWay, self.survey.read, ("a", "m"), 1), ("a", "m"))

    def test_blocks_behind_one_another(self):
        for number in range(3):
            with self.survey.trial() as held:
                held.read(AB, 5)
                if number == 1:
                    held.keep()
            self.assertEqual(self.survey.done, 2 + (number >= 1))
        self.check(raised(NoTrial, self.survey.keep), None)

    def test_entered_later(self):
        block = self.survey.trial()
        self.check(raised(NoTrial, self.survey.keep), None)
        self.survey.read(AC, 6)
        before = whole_state(self.survey)
        with block as held:
            self.assertIs(held, self.survey)
            held.read(BC, 7)
        self.check(whole_state(self.survey), before)


class Within(Checks):

    def setUp(self):
        self.survey = Survey(STAR_NET)
        self.survey.read(AB, 5)

    def nested(self, inner_kept, outer_kept):
        with self.survey.trial() as held:
            held.read(AC, 6)
            with held.trial() as inner:
                self.assertIs(inner, self.survey)
                inner.read(BC, 7)
                if inner_kept:
                    inner.keep()
            if outer_kept:
                held.keep()
        self.check(raised(NoTrial, self.survey.keep), None)
        return self.survey.readings

    def test_neither(self):
        self.check(self.nested(False, False), ((AB, 5),))

    def test_the_inner_one(self):
        self.check(self.nested(True, False), ((AB, 5),))

    def test_the_outer_one(self):
        self.check(self.nested(False, True), ((AB, 5), (AC, 6)))

    def test_both(self):
        self.check(self.nested(True, True), ((AB, 5), (AC, 6), (BC, 7)))

    def test_keep_belongs_to_the_innermost_block(self):
        with self.survey.trial() as held:
            held.read(AC, 6)
            with held.trial():
                held.read(BC, 7)
                held.keep()
            self.assertEqual(len(held), 3)
        self.check(self.survey.readings, ((AB, 5),))
        with self.survey.trial() as held:
            held.keep()
            with held.trial():
                held.read(AC, 6)
            self.assertEqual(len(held), 1)
            held.read(BC, 7)
        self.check(self.survey.readings, ((AB, 5), (BC, 7)))

    def test_three_deep(self):
        for kept in range(8):
            survey = Survey(STAR_NET)
            with survey.trial():
                survey.read(AB, 5)
                with survey.trial():
                    survey.read(AC, 6)
                    with survey.trial():
                        survey.read(BC, 7)
                        if kept & 1:
                            survey.keep()
                    self.assertEqual(len(survey), 2 + (kept & 1))
                    if kept & 2:
                        survey.keep()
                self.assertEqual(len(survey), 1 + (kept & 1) + 1 if kept & 2 else 1)
                if kept & 4:
                    survey.keep()
            wanted = ((AB, 5), (AC, 6), (BC, 7))[:(1 + (1 + (kept & 1) if kept & 2 else 0)) if kept & 4 else 0]
            self.check(survey.readings, wanted)

    def test_an_error_leaves_just_the_inner_one(self):
        with self.survey.trial() as held:
            held.read(AC, 6)
            held.keep()
            with self.assertRaises(Stop):
                with held.trial():
                    held.read(BC, 7)
                    held.keep()
                    raise Stop
        self.check(self.survey.readings, ((AB, 5), (AC, 6)))

    def test_an_error_leaves_both(self):
        with self.assertRaises(Stop):
            with self.survey.trial() as held:
                held.keep()
                with held.trial():
                    held.read(BC, 7)
                    held.keep()
                    raise Stop
        self.check(self.survey.readings, ((AB, 5),))

    def test_two_surveys(self):
        other = self.survey.copy()
        with self.survey.trial() as one, other.trial() as two:
            one.read(AC, 6)
            two.read(BC, 7)
            one.keep()
        self.check(self.survey.readings, ((AB, 5), (AC, 6)))
        self.check(other.readings, ((AB, 5),))


class UndoRedo(Checks):

    def test_undo_goes_on_to_what_was_done_ahead(self):
        survey = a_survey()
        before = whole_state(survey)
        with survey.trial():
            survey.undo()
            survey.undo()
            self.check(raised(NothingToUndo, survey.undo), None)
            self.assertEqual(survey.net, STAR_NET)
            survey.read(BC, 1)
        self.check(whole_state(survey), before)

    def test_redo_goes_on_to_what_was_taken_back_ahead(self):
        survey = a_survey()
        before = whole_state(survey)
        with survey.trial():
            survey.redo()
            survey.redo()
            self.check(raised(NothingToRedo, survey.redo), None)
            self.assertEqual(survey.done, 4)
        self.check(whole_state(survey), before)
        survey.redo()
        survey.redo()
        self.check(survey.readings, ((AB, 5), (("a", "m"), 2), (AC, 6)))

    def test_kept(self):
        survey = a_survey()
        with survey.trial():
            survey.undo()
            survey.undo()
            survey.keep()
        self.assertEqual((survey.done, survey.net), (0, STAR_NET))
        for many in range(1, 5):
            survey.redo()
            self.assertEqual(survey.done, many)
        self.check(raised(NothingToRedo, survey.redo), None)

    def test_what_can_be_done_again_behind_a_block(self):
        survey = a_survey()
        with survey.trial():
            survey.read(BC, 7)
            survey.undo()
            self.check(survey.copy().redo(), None)
        # A deed of the block left nothing, so what was taken back ahead of it can be done again.
        survey.redo()
        self.check(survey.readings, ((AB, 5), (("a", "m"), 2)))
        survey = a_survey()
        with survey.trial():
            survey.read(BC, 7)
            survey.read(AC, 6)
            survey.undo()
            survey.keep()
        survey.redo()
        self.check(survey.readings, ((AB, 5), (BC, 7), (AC, 6)))
        for many in range(3, -1, -1):
            survey.undo()
            self.assertEqual(survey.done, many)

    def test_undo_within_an_inner_block(self):
        survey = a_survey()
        with survey.trial():
            survey.read(AC, 6)
            with survey.trial():
                survey.undo()
                survey.undo()
                survey.undo()
                survey.keep()
            self.assertEqual(survey.done, 0)
            survey.redo()
            survey.keep()
        self.check(survey.readings, ((AB, 5),))
        self.assertEqual(survey.done, 1)
        survey.redo()
        survey.redo()
        self.check(survey.readings, ((AB, 5), (AC, 6)))
        self.check(raised(NothingToRedo, survey.redo), None)


class NoTrials(Checks):

    def test_outside(self):
        survey = Survey(STAR_NET)
        self.check(raised(NoTrial, survey.keep), None)
        survey.trial()
        self.check(raised(NoTrial, survey.keep), None)

    def test_in_a_copy_made_within(self):
        survey = Survey(STAR_NET)
        with survey.trial() as held:
            held.read(AB, 5)
            other = held.copy()
            self.check(raised(NoTrial, other.keep), None)
            other.read(AC, 6)
            self.assertEqual(len(held), 1)
            with other.trial():
                other.keep()
        self.check(survey.readings, ())
        self.check(other.readings, ((AB, 5), (AC, 6)))
        other.undo()
        self.check(other.readings, ((AB, 5),))

    def test_equal_within(self):
        survey = Survey(STAR_NET)
        with survey.trial():
            self.assertEqual(survey, Survey(STAR_NET))
            survey.read(AB, 5)
            self.assertNotEqual(survey, Survey(STAR_NET))


class Tried(Checks):

    def look(self, survey):
        survey.read(AC, 6)
        return ("looked", survey.done)

    def test_not_kept(self):
        for more in ({}, {"keep": False}, {"keep": 1}, {"keep": "yes"}, {"keep": None}, {"keep": (True,)}, {"keep": [True]},
                     {"keep": 0}, {"keep": ()}, {"keep": "True"}, {"keep": STAR_NET}):
            survey = a_survey()
            before = whole_state(survey)
            self.check(survey.tried(self.look, **more), ("looked", 3))
            self.check(whole_state(survey), before)
            self.check(raised(NoTrial, survey.keep), None)

    def test_values_of_any_kind(self):
        survey = a_survey()
        before = whole_state(survey)
        for value in any_values():
            if value is not True:
                survey.tried(self.look, keep=value)
                self.check(whole_state(survey), before)

    def test_kept(self):
        survey = a_survey()
        self.check(survey.tried(self.look, keep=True), ("looked", 3))
        self.check(survey.readings, ((AB, 5), (AC, 6)))
        self.check(raised(NothingToRedo, survey.redo), None)
        self.check(raised(NoTrial, survey.keep), None)

    def test_by_its_own_keep(self):
        for more in ({}, {"keep": False}, {"keep": True}, {"keep": 0}):
            survey = a_survey()
            self.assertIsNone(survey.tried(lambda one: (one.keep(), one.read(AC, 6))[1], **more))
            self.check(survey.readings, ((AB, 5), (AC, 6)))

    def test_keep_of_a_block_within_look(self):
        def look(survey):
            with survey.trial():
                survey.read(AC, 6)
                survey.keep()
            return len(survey)
        survey = a_survey()
        before = whole_state(survey)
        self.check(survey.tried(look), 2)
        self.check(whole_state(survey), before)
        self.check(survey.tried(look, keep=True), 2)
        self.assertEqual(len(survey), 2)

    def test_what_look_returns(self):
        survey = a_survey()
        for value in any_values():
            self.assertIs(survey.tried(lambda one: value), value)
        self.assertIs(survey.tried(lambda one: one), survey)
        self.check(survey.tried(journal), journal(survey))
        self.check(survey.tried(state_of), state_of(survey))

    def test_errors_pass_on(self):
        survey = a_survey()
        before = whole_state(survey)
        for error in (Stop(), BadNumber(3), KeyboardInterrupt()):
            def look(one):
                one.read(AC, 6)
                one.keep()
                raise error
            for more in ({}, {"keep": True}):
                with self.assertRaises(type(error)) as caught:
                    survey.tried(look, **more)
                self.assertIs(caught.exception, error)
                self.check(whole_state(survey), before)
        self.check(raised(Torn, survey.tried, lambda one: one.read(AB, 6), keep=True) != (), True)
        self.check(raised(Watches, survey.tried, lambda one: one.watch("a"), keep=True), "a")
        self.check(whole_state(survey), before)

    def test_within_a_block(self):
        survey = a_survey()
        before = whole_state(survey)
        with survey.trial():
            survey.tried(self.look, keep=True)
            self.assertEqual(len(survey), 2)
        self.check(whole_state(survey), before)
        with survey.trial():
            survey.keep()
            survey.tried(self.look)
        self.check(whole_state(survey), before)

    def test_tried_within_tried(self):
        survey = a_survey()
        self.check(survey.tried(lambda one: one.tried(self.look, keep=True)), ("looked", 3))
        self.assertEqual(survey.done, 2)
        self.check(survey.tried(lambda one: one.tried(self.look), keep=True), ("looked", 3))
        self.assertEqual(survey.done, 2)
        survey.tried(lambda one: one.tried(self.look, keep=True), keep=True)
        self.assertEqual(survey.done, 3)

    def test_by_names(self):
        survey = a_survey()
        self.check(survey.tried(keep=True, look=self.look), ("looked", 3))
        with self.assertRaises(TypeError):
            survey.tried(self.look, True)
        self.assertEqual(survey.done, 3)


class DrawnRows(Checks):

    def test_blocks_are_as_copies(self):
        draw = random.Random("trials")
        for first in [STAR_NET, HOUSE_NET, *drawn_nets("trials", 15, least=4, most=5)]:
            survey = Survey(first)
            for _ in range(12):
                self.block(draw, survey, first, 0)
                self.check(raised(NoTrial, survey.keep), None)

    def block(self, draw, survey, first, depth):
        copied = survey.copy()
        keep, fails = draw.random() < 0.5, draw.random() < 0.3
        try:
            with survey.trial():
                for _ in range(draw.randint(0, 4)):
                    if depth < 3 and draw.random() < 0.4:
                        self.block(draw, survey, first, depth + 1)
                    else:
                        self.deed(draw, survey, first)
                if keep:
                    survey.keep()
                if not keep or fails:
                    wanted = whole_state(copied)
                else:
                    wanted = whole_state(survey)
                if fails:
                    raise Stop
        except Stop:
            pass
        self.check(whole_state(survey), wanted)

    def deed(self, draw, survey, first):
        found = plain_ways(survey.net)
        kind = draw.choice(["read", "read", "watch", "undo", "redo"])
        try:
            if kind == "undo":
                survey.undo()
            elif kind == "redo":
                survey.redo()
            elif kind == "watch":
                survey.watch(draw.choice(first.places))
            elif found:
                way = draw.choice(found)
                survey.read(way, sum(number * one for number, one in enumerate(plain_row(first, way))) + draw.choice([0, 0, 1]))
        except TieError:
            pass


class SureWithin(Checks):

    def test_what_is_told_within_goes_with_the_block(self):
        survey = Survey(STAR_NET)
        survey.read(AB, 5)
        survey.read(AC, 6)
        weights = unit(STAR_NET, 0)
        with survey.trial():
            survey.read(BC, 7)
            self.check(survey.cost(weights)[:2], ("sure", (2, 1)))
            self.check(survey.next(weights), ("sure",))
        self.check(survey.cost(weights)[0], "open")
        self.check(survey.next(weights), ("way", BC))
        self.check(survey.sure(), ())


if __name__ == "__main__":
    unittest.main()

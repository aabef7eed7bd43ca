"""A survey at work: readings that come one by one, deeds that are taken back, and trials."""

from tiesums.errors import BadNumber, BadWay, Full, NoTrial, NothingToRedo, NothingToUndo, Torn
from tiesums.fractions import is_integer
from tiesums.readings import MOST_READINGS, fitting, known, next_way, reckoned, shows_reckoned
from tiesums.ways import is_way


class Trial:
    """A block behind which the survey is as ahead of it, unless it is kept.

    kept: None as long as nobody has called keep in it, from then on True.
    """

    def __init__(self, survey):
        self.survey = survey
        self.outer = None
        self.kept = None

    def __enter__(self):
        survey = self.survey
        self.outer = survey.inner
        self.net = survey.net
        self.readings = survey.readings
        self.done = survey.done
        self.steps = survey.steps
        self.undone = survey.undone
        survey.inner = self
        return survey

    def __exit__(self, kind, value, trace):
        survey = self.survey
        survey.inner = self.outer
        if kind is not None or self.kept is None:
            survey.net = self.net
            survey.readings = self.readings
            survey.done = self.done
            survey.steps = self.steps
            survey.undone = self.undone


class Survey:
    """A survey of a net: the readings that stand, which never contradict each other, and the deeds that led there.

    steps: (deed, net, readings) for each deed that stands, with the net and the readings behind it; undone: likewise
    those that were taken back, the one that is to be done again first standing last; inner: the innermost trial.
    """

    def __init__(self, net):
        self.first = net
        self.net = net
        self.readings = ()
        self.done = 0
        self.steps = ()
        self.undone = ()
        self.inner = None

    def __len__(self):
        return len(self.readings)

    def __eq__(self, other):
        return isinstance(other, Survey) and self.first == other.first and self.steps == other.steps

    def cost(self, weights):
        """What reckoned tells of the readings and the net now."""
        return reckoned(self.net, self.readings, weights)

    def shows_cost(self, weights, value):
        """Whether any value is such a result as cost tells."""
        return shows_reckoned(self.net, self.readings, weights, value)

    def sure(self):
        """The ascending tuple of (number, worth) for all ties of which reckoned tells "sure"."""
        return known(self.net, self.readings)

    def next(self, weights):
        """What next_way tells of the readings and the net now."""
        return next_way(self.net, self.readings, weights)

    def read(self, way, amount):
        """The deed by which this reading stands behind the others."""
        if not is_way(self.net, way):
            raise BadWay(way)
        if not is_integer(amount):
            raise BadNumber(amount)
        if len(self.readings) == MOST_READINGS:
            raise Full(MOST_READINGS)
        readings = (*self.readings, (way, amount))
        word, numbers = fitting(self.net, readings)
        if word == "torn":
            raise Torn(numbers)
        self._do((("read", way, amount), self.net, readings))

    def watch(self, place):
        """The deed by which this place watches from now on."""
        self._do((("watch", place), self.net.with_watcher(place), self.readings))

    def undo(self):
        """Takes the last deed back that stands."""
        if len(self.steps) == 0:
            raise NothingToUndo(None)
        self._stand(self.steps[:-1], (*self.undone, self.steps[-1]))

    def redo(self):
        """Does the deed again that was taken back last."""
        if len(self.undone) == 0:
            raise NothingToRedo(None)
        self._stand((*self.steps, self.undone[-1]), self.undone[:-1])

    def trial(self):
        """A block behind which all is as ahead of it, unless keep was called in it and no error left it."""
        return Trial(self)

    def keep(self):
        """All stays behind the innermost block as it is at its end, unless an error leaves it."""
        trial = self.inner
        if trial is None:
            raise NoTrial(None)
        trial.kept = True

    def tried(self, look, *, keep=False):
        """What look returns of the survey, called within a trial that is kept if keep is True, or look keeps it."""
        with self.trial() as held:
            told = look(held)
            if keep is True:
                held.keep()
        return told

    def copy(self):
        """An independent survey, alike in all things, outside of all trials."""
        other = Survey(self.first)
        other._stand(self.steps, self.undone)
        return other

    def _do(self, step):
        self._stand((*self.steps, step), ())

    def _stand(self, steps, undone):
        self.net, self.readings = self.first, ()
        if len(steps) > 0:
            _, self.net, self.readings = steps[-1]
        self.done = len(steps)
        self.steps = steps
        self.undone = undone

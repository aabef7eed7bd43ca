"""A survey at work: readings that come one by one, deeds that are taken back, and trials."""

from tiesums.errors import BadNumber, BadWay, Full, NoTrial, NothingToRedo, NothingToUndo, Torn
from tiesums.fractions import is_integer
from tiesums.readings import MOST_READINGS, Report, known_of, next_of, reckoned_of, shows_reckoned_of
from tiesums.told import need_weights
from tiesums.ways import is_way, row_of


class Trial:
    """A block behind which the survey is as ahead of it, unless it is kept.

    kept: None as long as nobody has called keep in it, from then on True.
    """

    def __init__(self, survey):
        self.survey = survey
        self.outer = None
        self.kept = None

    def __enter__(self):
        survey = self.survey
        self.outer = survey.inner
        self.net = survey.net
        self.readings = survey.readings
        self.done = survey.done
        self.steps = survey.steps
        self.undone = survey.undone
        self.report = survey.report
        survey.inner = self
        return survey

    def __exit__(self, kind, value, trace):
        survey = self.survey
        survey.inner = self.outer
        if kind is not None or self.kept is None:
            survey.net = self.net
            survey.readings = self.readings
            survey.done = self.done
            survey.steps = self.steps
            survey.undone = self.undone
            survey.report = self.report


class Survey:
    """A survey of a net: the readings that stand, which never contradict each other, and the deeds that led there.

    steps: (deed, net, readings, report) for each deed that stands, with the net and the readings behind it and what
    they show; undone: likewise those that were taken back, the one that is to be done again first standing last;
    report: that of the last step; inner: the innermost trial.
    """

    def __init__(self, net):
        self.first = net
        self.net = net
        self.readings = ()
        self.done = 0
        self.steps = ()
        self.undone = ()
        self.report = Report(len(net))
        self.inner = None

    def __len__(self):
        return len(self.readings)

    def __eq__(self, other):
        return (isinstance(other, Survey) and self.first == other.first
                and [step[0] for step in self.steps] == [step[0] for step in other.steps])

    def cost(self, weights):
        """What reckoned tells of the readings and the net now."""
        need_weights(self.net, weights)
        return reckoned_of(self.report, weights)

    def shows_cost(self, weights, value):
        """Whether any value is such a result as cost tells."""
        need_weights(self.net, weights)
        return shows_reckoned_of(self.report, weights, value)

    def sure(self):
        """The ascending tuple of (number, worth) for all ties of which reckoned tells "sure"."""
        return known_of(self.report)

    def next(self, weights):
        """What next_way tells of the readings and the net now."""
        need_weights(self.net, weights)
        return next_of(self.net, self.report, weights)

    def read(self, way, amount):
        """The deed by which this reading stands behind the others."""
        if not is_way(self.net, way):
            raise BadWay(way)
        if not is_integer(amount):
            raise BadNumber(amount)
        if len(self.readings) == MOST_READINGS:
            raise Full(MOST_READINGS)
        report = self.report.copy()
        report.hear(row_of(self.net, way), amount)
        if report.torn is not None:
            raise Torn(report.torn)
        self._do((("read", way, amount), self.net, (*self.readings, (way, amount)), report))

    def watch(self, place):
        """The deed by which this place watches from now on."""
        net = self.net.with_watcher(place)
        self._do((("watch", place), net, self.readings, self.report.copy()))

    def undo(self):
        """Takes the last deed back that stands."""
        if len(self.steps) == 0:
            raise NothingToUndo(None)
        self._stand(self.steps[:-1], (*self.undone, self.steps[-1]))

    def redo(self):
        """Does the deed again that was taken back last."""
        if len(self.undone) == 0:
            raise NothingToRedo(None)
        self._stand((*self.steps, self.undone[-1]), self.undone[:-1])

    def trial(self):
        """A block behind which all is as ahead of it, unless keep was called in it and no error left it."""
        return Trial(self)

    def keep(self):
        """All stays behind the innermost block as it is at its end, unless an error leaves it."""
        trial = self.inner
        if trial is None:
            raise NoTrial(None)
        trial.kept = True

    def tried(self, look, *, keep=False):
        """What look returns of the survey, called within a trial that is kept if keep is True, or look keeps it."""
        with self.trial() as held:
            told = look(held)
            if keep is True:
                held.keep()
        return told

    def copy(self):
        """An independent survey, alike in all things, outside of all trials."""
        other = Survey(self.first)
        other._stand(self.steps, self.undone)
        return other

    def _do(self, step):
        self._stand((*self.steps, step), ())

    def _stand(self, steps, undone):
        if len(steps) > 0:
            _, self.net, self.readings, self.report = steps[-1]
        else:
            self.net, self.readings, self.report = self.first, (), Report(len(self.first))
        self.done = len(steps)
        self.steps = steps
        self.undone = undone

"""A desk: it takes lines, works on a survey, and answers."""

from tiesums.errors import BadLine
from tiesums.journals import deed_of, do, read_journal, words_of
from tiesums.told import need_tie, sure_ties, weights_of


def _written(worth):
    top, low = worth
    return f"{top}/{low}"


class Desk:
    """A desk at which lines are said to a survey, at first that of a journal."""

    def __init__(self, text):
        self.survey = read_journal(text)

    def say(self, line):
        """Does what the line tells, and answers."""
        if not isinstance(line, str) or "\n" in line or words_of(line) is None:
            raise BadLine(line)
        deed = deed_of(line)
        if deed is not None:
            do(self.survey, deed)
            return "ok"
        words = words_of(line)
        if words[0] == "cost" and len(words) == 3:
            return self._cost((words[1], words[2]))
        return self._answer(line)

    def _answer(self, line):
        if line == "undo":
            self.survey.undo()
            return "ok"
        if line == "redo":
            self.survey.redo()
            return "ok"
        if line == "told":
            return " ".join([str(number) for number in sure_ties(self.survey.net)])
        if line == "sure":
            return " ".join([f"{number}={_written(cost)}" for number, cost in self.survey.sure()])
        if line == "watchers":
            return " ".join(self.survey.net.watchers)
        raise BadLine(line)

    def _cost(self, tie):
        net = self.survey.net
        need_tie(net, tie)
        told = self.survey.cost(weights_of(net, net.ties.index(tie)))
        return _written(told[1]) if told[0] == "sure" else "open"

"""Journals: texts that tell a survey deed by deed."""

from tiesums.errors import BadJournal, BadNet, TieError
from tiesums.nets import Net
from tiesums.surveys import Survey

DIGITS = "0123456789"


def _deed_line(deed):
    if deed[0] == "read":
        _, way, amount = deed
        return " ".join(["read", str(amount), *way])
    return " ".join(deed)


def journal(survey):
    """The text of the survey: its net as it was at first, and a line for each deed that stands."""
    return "\n".join([survey.first.text, "survey"] + [_deed_line(step[0]) for step in survey.steps])


def words_of(line):
    """The words of a line, parted by one blank. None if it has no such form."""
    words = line.split(" ")
    return None if "" in words else words


def is_written(word):
    """Whether the word is an integer as Python writes it."""
    digits = word.removeprefix("-")
    if len(digits) == 0 or not all([sign in DIGITS for sign in digits]):
        return False
    return word == str(int(word))


def deed_of(line):
    """The deed that a line tells. None if it has no such form."""
    words = words_of(line)
    if words is None:
        return None
    if words[0] == "watch" and len(words) == 2:
        return ("watch", words[1])
    if words[0] == "read" and len(words) > 2 and is_written(words[1]):
        return ("read", tuple(words[2:]), int(words[1]))
    return None


def do(survey, deed):
    """Does the deed in the survey."""
    if deed[0] == "read":
        survey.read(deed[1], deed[2])
    else:
        survey.watch(deed[1])


def _read_net(lines):
    try:
        return Net("\n".join(lines))
    except BadNet as why:
        raise BadJournal(why.value) from None


def read_journal(text):
    """The survey that the text tells."""
    if not isinstance(text, str):
        raise BadJournal(0)
    lines = text.split("\n")
    if "survey" not in lines:
        raise BadJournal(len(lines) + 1)
    at = lines.index("survey")
    survey = Survey(_read_net(lines[:at]))
    for number, line in enumerate(lines[at + 1:], start=at + 2):
        deed = deed_of(line)
        if deed is None:
            raise BadJournal(number)
        try:
            do(survey, deed)
        except TieError:
            raise BadJournal(number) from None
    return survey

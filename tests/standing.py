"""What can be seen of a survey."""

from tiesums.errors import NothingToRedo
from tiesums.journals import journal


def state_of(survey):
    """All that can be seen of a survey, but for what can be undone and done again."""
    return (survey.net.text, survey.first.text, survey.readings, survey.done, len(survey), survey.sure(), journal(survey))


def whole_state(survey):
    """All that can be seen of it, also what stands as far as it can be undone and done again."""
    rows = [state_of(survey)]
    back, forth = survey.copy(), survey.copy()
    while back.done:
        back.undo()
        rows.append(state_of(back))
    while True:
        try:
            forth.redo()
        except NothingToRedo:
            return rows
        rows.append(state_of(forth))

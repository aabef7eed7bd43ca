"""What one net tells that another one with the same ties tells, too."""

from tiesums.errors import OtherTies
from tiesums.fractions import ONE, is_integer
from tiesums.nets import Net
from tiesums.rows import Maker, apart
from tiesums.told import make_all
from tiesums.ways import are_alike, sight_of, walked


def _need_same_ties(one, other):
    if not isinstance(other, Net) or one.places != other.places or one.ties != other.ties:
        raise OtherTies(other)


def _has_all_ways(one, other):
    """Whether each way of other is one of one."""
    # The ties are the same: it is if both its ends watch.
    return all([place in one.watchers for place in other.watchers])


def _parts(one, other):
    """A difference that all ways of one hide, but some way of other shows. None if there is none."""
    if _has_all_ways(one, other):
        return None
    for difference in sight_of(one).hidden:
        if not sight_of(other).hides(difference):
            return difference
    return None


def _rows(one, other):
    """For each way of other signed ways of one that make what it makes."""
    if _has_all_ways(one, other):
        return tuple([((way, ONE),) for way in walked(other)])
    maker, found = Maker(sight_of(one), len(one)), []
    for way, row in walked(other).items():
        if way[0] in one.watchers and way[-1] in one.watchers:
            found.append(((way, ONE),))
        else:
            found.append(maker.making(row))
    return tuple(found)


def within(one, other):
    """("within", rows) of which all ways of other are made, or ("parts", costs, others) that it alone tells apart."""
    _need_same_ties(one, other)
    difference = _parts(one, other)
    if difference is None:
        return ("within", _rows(one, other))
    costs, others = apart(difference)
    return ("parts", costs, others)


def _shows_rows(one, other, value):
    return make_all(one, value, list(walked(other).values()))


def _shows_parts(one, other, costs, others):
    return are_alike(one, costs, others) and not are_alike(other, costs, others)


def shows_within(one, other, value):
    """Whether any value is such a result as within tells of these nets."""
    _need_same_ties(one, other)
    if not isinstance(value, tuple):
        return False
    if len(value) == 2 and value[0] == "within":
        return _shows_rows(one, other, value[1])
    if len(value) == 3 and value[0] == "parts":
        return _shows_parts(one, other, value[1], value[2])
    return False


def alike(one, other):
    """("alike", rows, others) as within tells them both ways, or ("parts", number, costs, others)."""
    _need_same_ties(one, other)
    for number, (ahead, behind) in enumerate([(one, other), (other, one)]):
        difference = _parts(ahead, behind)
        if difference is not None:
            costs, others = apart(difference)
            return ("parts", number, costs, others)
    return ("alike", _rows(one, other), _rows(other, one))


def shows_alike(one, other, value):
    """Whether any value is such a result as alike tells of these nets."""
    _need_same_ties(one, other)
    if not isinstance(value, tuple):
        return False
    if len(value) == 3 and value[0] == "alike":
        return _shows_rows(one, other, value[1]) and _shows_rows(other, one, value[2])
    if len(value) != 4 or value[0] != "parts" or not is_integer(value[1]):
        return False
    if value[1] == 0:
        return _shows_parts(one, other, value[2], value[3])
    return value[1] == 1 and _shows_parts(other, one, value[2], value[3])

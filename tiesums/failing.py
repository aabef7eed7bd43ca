"""Which ties can have failed, if it is told which ways let nobody through."""

from tiesums.errors import BadFailed, BadNumber, NoBlame
from tiesums.fractions import is_integer
from tiesums.ways import are_ascending_ways, walked

MOST_FAILED = 3


def _ways_along(net):
    """For each tie the ways that go along it, as an integer with a bit for each way."""
    found, bit = [0] * len(net), 1
    for row in walked(net).values():
        for tie in row:
            found[tie] |= bit
        bit <<= 1
    return found


def _bits_of(net, some):
    """Some ways, as an integer with a bit for each of them."""
    asked = {way: True for way in some}
    return sum([1 << at for at, way in enumerate(walked(net)) if way in asked])


def _need_failed(net, failed, most):
    # Ways are found faster among all of them, which are needed anyway.
    walked(net)
    if not are_ascending_ways(net, failed):
        raise BadFailed(failed)
    if not is_integer(most) or not 0 <= most <= MOST_FAILED:
        raise BadNumber(most)


def groups(net):
    """The ascending tuple of the groups of ties along which the same ways go."""
    found = {}
    for tie, bits in enumerate(_ways_along(net)):
        found.setdefault(bits, []).append(tie)
    return tuple(sorted([tuple(group) for group in list(found.values())]))


def blame(net, failed, most):
    """The ascending tuple of all rows of at most so many ties that, failed, make just these ways fail."""
    _need_failed(net, failed, most)
    wanted = _bits_of(net, failed)
    along = _ways_along(net)
    # A tie along which another way goes cannot have failed.
    able = [tie for tie, bits in enumerate(along) if bits & wanted == bits]
    rows, found = [((), 0)], []
    for many in range(most + 1):
        if many > 0:
            rows = [((*some, tie), bits | along[tie])
                    for some, bits in rows for tie in able if len(some) == 0 or some[-1] < tie]
        found.extend([some for some, bits in rows if bits == wanted])
    return tuple(sorted(found))


def verdict(net, failed, most):
    """(always, at times, never): the ties that are in all rows that blame tells, in some of them only, in none."""
    found = blame(net, failed, most)
    if len(found) == 0:
        raise NoBlame(failed)
    counts = [0] * len(net)
    for some in found:
        for tie in some:
            counts[tie] += 1
    always = [tie for tie, count in enumerate(counts) if count == len(found)]
    at_times = [tie for tie, count in enumerate(counts) if 0 < count < len(found)]
    never = [tie for tie, count in enumerate(counts) if count == 0]
    return (tuple(always), tuple(at_times), tuple(never))

"""Which ties, and which weights of ties, the sums of all ways tell, and why."""

from tiesums.errors import BadWeights, NoTie
from tiesums.fractions import ONE, is_fraction, is_integer, total
from tiesums.rows import ZERO, Sight, apart
from tiesums.ways import are_alike, are_ascending_ways, are_costs, rows_of, ways


def _sight(net, some):
    return Sight(rows_of(net, some), len(net))


def _weights_of(net, number):
    # Those by which the worth is the cost of the tie of this number.
    return tuple([ONE if at == number else ZERO for at in range(len(net))])


def _need_weights(net, weights):
    if not are_costs(net, weights):
        raise BadWeights(weights)


def _need_tie(net, tie):
    if tie not in net:
        raise NoTie(tie)


def _signed(sight, some, weights):
    return tuple([(some[at], number) for at, number in sight.making(weights)])


def _are_signed(net, value):
    if not isinstance(value, tuple):
        return False
    if not all([isinstance(row, tuple) and len(row) == 2 for row in value]):
        return False
    numbers = [row[1] for row in value]
    if not all([is_fraction(number) and number != ZERO for number in numbers]):
        return False
    return are_ascending_ways(net, tuple([row[0] for row in value]))


def _make(net, value, weights):
    """Whether any value is signed ways that make these weights."""
    if not _are_signed(net, value):
        return False
    rows = rows_of(net, [signed[0] for signed in value])
    parts = [[] for weight in weights]
    for (way, number), row in zip(value, rows):
        for tie in row:
            parts[tie].append(number)
    return tuple([total(tuple(part)) for part in parts]) == weights


def told(net, weights):
    """("told", signed ways that make the weights), or ("alike", costs, others) that no sum tells apart."""
    _need_weights(net, weights)
    found = ways(net)
    sight = _sight(net, found)
    difference = sight.unseen(weights)
    if difference is None:
        return ("told", _signed(sight, found, weights))
    costs, others = apart(difference)
    return ("alike", costs, others)


def shows_told(net, weights, value):
    """Whether any value is such a result as told tells of these weights."""
    _need_weights(net, weights)
    if not isinstance(value, tuple):
        return False
    if len(value) == 2 and value[0] == "told":
        return _make(net, value[1], weights)
    if len(value) == 3 and value[0] == "alike":
        return _shows_apart(net, weights, value[1], value[2])
    return False


def _shows_apart(net, weights, costs, others):
    return are_alike(net, costs, others) and total(costs, weights) != total(others, weights)


def tie_told(net, tie):
    """What told tells of the cost of this tie alone."""
    _need_tie(net, tie)
    return told(net, _weights_of(net, net.ties.index(tie)))


def shows_tie_told(net, tie, value):
    """Whether any value is such a result as tie_told tells of this tie."""
    _need_tie(net, tie)
    return shows_told(net, _weights_of(net, net.ties.index(tie)), value)


def _is_sure(sight, number):
    return all([difference[number] == 0 for difference in sight.hidden])


def sure_ties(net):
    """The ascending tuple of the numbers of all told ties."""
    sight = _sight(net, ways(net))
    return tuple([number for number in range(len(net)) if _is_sure(sight, number)])


def whole(net):
    """("all", signed ways for each tie), or ("not", number, costs, others) for a tie that is not told."""
    found = ways(net)
    sight = _sight(net, found)
    rows = []
    for number in range(len(net)):
        weights = _weights_of(net, number)
        difference = sight.unseen(weights)
        if difference is not None:
            costs, others = apart(difference)
            return ("not", number, costs, others)
        rows.append(_signed(sight, found, weights))
    return ("all", tuple(rows))


def shows_whole(net, value):
    """Whether any value is such a result as whole tells."""
    if not isinstance(value, tuple):
        return False
    if len(value) == 2 and value[0] == "all":
        return _shows_rows(net, value[1])
    if len(value) == 4 and value[0] == "not" and is_integer(value[1]) and 0 <= value[1] < len(net):
        return _shows_apart(net, _weights_of(net, value[1]), value[2], value[3])
    return False


def _shows_rows(net, value):
    if not isinstance(value, tuple) or len(value) != len(net):
        return False
    return all([_make(net, row, _weights_of(net, number)) for number, row in enumerate(value)])


def base(net):
    """As few ways as can be, ascending, by which all weights are made that signed ways make."""
    found = ways(net)
    return tuple([found[at] for at, difference in _sight(net, found).taken])


def shows_base(net, value):
    """Whether any value is such a result as base tells."""
    if not are_ascending_ways(net, value):
        return False
    return len(value) == len(_sight(net, value).taken) == len(base(net))

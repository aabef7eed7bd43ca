"""Which ties, and which weights of ties, the sums of all ways tell, and why."""

from tiesums.errors import BadWeights, NoTie
from tiesums.fractions import ONE, is_fraction, is_integer, total
from tiesums.rows import ZERO, Sight, apart, made
from tiesums.ways import are_alike, are_ascending_ways, are_costs, row_of, sight_of


def weights_of(net, number):
    """Those by which the worth is the cost of the tie of this number."""
    return tuple([ONE if at == number else ZERO for at in range(len(net))])


def need_weights(net, weights):
    """Raises BadWeights unless the value is weights."""
    if not are_costs(net, weights):
        raise BadWeights(weights)


def need_tie(net, tie):
    """Raises NoTie unless the value is a tie of the net."""
    if tie not in net:
        raise NoTie(tie)


def _are_signed(net, value):
    if not isinstance(value, tuple):
        return False
    if not all([isinstance(row, tuple) and len(row) == 2 for row in value]):
        return False
    if not all([is_fraction(number) and number != ZERO for way, number in value]):
        return False
    return are_ascending_ways(net, tuple([way for way, number in value]))


def make(net, value, weights):
    """Whether any value is signed ways that make these weights."""
    if not _are_signed(net, value):
        return False
    rows = [row_of(net, way) for way, number in value]
    return made(rows, [number for way, number in value], len(net)) == weights


def told(net, weights):
    """("told", signed ways that make the weights), or ("alike", costs, others) that no sum tells apart."""
    need_weights(net, weights)
    sight = sight_of(net)
    difference = sight.unseen(weights)
    if difference is None:
        return ("told", sight.making(weights))
    costs, others = apart(difference)
    return ("alike", costs, others)


def shows_told(net, weights, value):
    """Whether any value is such a result as told tells of these weights."""
    need_weights(net, weights)
    if not isinstance(value, tuple):
        return False
    if len(value) == 2 and value[0] == "told":
        return make(net, value[1], weights)
    if len(value) == 3 and value[0] == "alike":
        return tell_apart(net, weights, value[1], value[2])
    return False


def tell_apart(net, weights, costs, others):
    """Whether two values of any kind are costs that no sum tells apart, but whose worths are unlike."""
    return are_alike(net, costs, others) and total(costs, weights) != total(others, weights)


def tie_told(net, tie):
    """What told tells of the cost of this tie alone."""
    need_tie(net, tie)
    return told(net, weights_of(net, net.ties.index(tie)))


def shows_tie_told(net, tie, value):
    """Whether any value is such a result as tie_told tells of this tie."""
    need_tie(net, tie)
    return shows_told(net, weights_of(net, net.ties.index(tie)), value)


def sure_ties(net):
    """The ascending tuple of the numbers of all told ties."""
    hidden = sight_of(net).hidden
    return tuple([number for number in range(len(net)) if not any([one[number] for one in hidden])])


def whole(net):
    """("all", signed ways for each tie), or ("not", number, costs, others) for a tie that is not told."""
    sight = sight_of(net)
    rows = []
    for number in range(len(net)):
        weights = weights_of(net, number)
        difference = sight.unseen(weights)
        if difference is not None:
            costs, others = apart(difference)
            return ("not", number, costs, others)
        rows.append(sight.making(weights))
    return ("all", tuple(rows))


def shows_whole(net, value):
    """Whether any value is such a result as whole tells."""
    if not isinstance(value, tuple):
        return False
    if len(value) == 2 and value[0] == "all":
        return make_all(net, value[1], [weights_of(net, number) for number in range(len(net))])
    if len(value) == 4 and value[0] == "not" and is_integer(value[1]) and 0 <= value[1] < len(net):
        return tell_apart(net, weights_of(net, value[1]), value[2], value[3])
    return False


def make_all(net, value, wanted):
    """Whether any value is a tuple of signed ways for each of some weights, in their sequence, that make them."""
    if not isinstance(value, tuple) or len(value) != len(wanted):
        return False
    return all([make(net, row, weights) for row, weights in zip(value, wanted)])


def base(net):
    """As few ways as can be, ascending, by which all weights are made that signed ways make."""
    return tuple([way for way, row, difference in sight_of(net).taken])


def shows_base(net, value):
    """Whether any value is such a result as base tells."""
    if not are_ascending_ways(net, value) or len(value) != len(base(net)):
        return False
    sight = Sight(len(net))
    for way in value:
        sight.look(way, row_of(net, way))
    return len(value) == len(sight.taken)

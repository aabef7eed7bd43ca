"""Which ties, and which weights of ties, the sums of all ways tell, and why."""

from tiesums.errors import BadWeights, NoTie
from tiesums.fractions import is_fraction, is_integer
from tiesums.rows import ZERO, Sight, apart, counted, difference_of, in_integers, made, sum_along, worth_of
from tiesums.ways import are_ascending_ways, are_costs, is_way, row_of, sight_of, surely_hidden

# Numbers with more different lows than these would make too great integers of all together.
MOST_LOWS = 6


def weights_of(net, number):
    """Those by which the worth is the cost of the tie of this number."""
    return counted((number,), len(net))


def need_weights(net, weights):
    """Raises BadWeights unless the value is weights."""
    if not are_costs(net, weights):
        raise BadWeights(weights)


def need_tie(net, tie):
    """Raises NoTie unless the value is a tie of the net."""
    if tie not in net:
        raise NoTie(tie)


def _are_terms(value):
    """Whether any value is a tuple of (tuple of strings, fraction)."""
    if not isinstance(value, tuple):
        return False
    for term in value:
        if not isinstance(term, tuple) or len(term) != 2:
            return False
        way, number = term
        if not isinstance(way, tuple) or not is_fraction(number) or not all([isinstance(place, str) for place in way]):
            return False
    return True


def _are_signed(net, terms):
    """Whether terms, perhaps those of several rows, are such as signed ways have."""
    return all([number != ZERO and is_way(net, way) for way, number in terms])


def _are_ascending(terms):
    return all([term[0] < behind[0] for term, behind in zip(terms, terms[1:])])


def make(net, value, weights):
    """Whether any value is signed ways that make these weights."""
    if not _are_terms(value) or not _are_signed(net, value) or not _are_ascending(value):
        return False
    rows = [row_of(net, way) for way, number in value]
    return made(rows, [number for way, number in value], len(net)) == weights


def make_all(net, value, wanted):
    """Whether any value is a tuple of signed ways for each of some rows, in sequence, that make just their ties."""
    if not isinstance(value, tuple) or len(value) != len(wanted) or not all([_are_terms(row) for row in value]):
        return False
    # Most rows have the same terms, so that each is looked at just once.
    terms = list({term: True for row in value for term in row})
    if not _are_signed(net, terms) or not all([_are_ascending(row) for row in value]):
        return False
    if len(set([number[1] for way, number in terms])) > MOST_LOWS:
        return all([make(net, row, counted(wish, len(net))) for row, wish in zip(value, wanted)])
    return _sums_make(net, value, terms, wanted)


def _sums_make(net, value, terms, wanted):
    low, tops = in_integers([number for way, number in terms])
    # All weights as one integer: each has bits of its own, more of them than all terms together can fill.
    width = (sum([abs(top) for top in tops]) + low).bit_length() + 1
    ones = [1 << width * tie for tie in range(len(net))]
    worths = {term: top * sum_along(row_of(net, term[0]), ones) for term, top in zip(terms, tops)}
    found = [sum([worths[term] for term in row]) for row in value]
    return found == [low * sum_along(row, ones) for row in wanted]


def told(net, weights):
    """("told", signed ways that make the weights), or ("alike", costs, others) that no sum tells apart."""
    need_weights(net, weights)
    sight = sight_of(net)
    difference = sight.unseen(weights)
    if difference is None:
        return ("told", sight.making(weights))
    costs, others = apart(difference)
    return ("alike", costs, others)


def shows_told(net, weights, value):
    """Whether any value is such a result as told tells of these weights."""
    need_weights(net, weights)
    if not isinstance(value, tuple):
        return False
    if len(value) == 2 and value[0] == "told":
        return make(net, value[1], weights)
    if len(value) == 3 and value[0] == "alike":
        return tell_apart(net, weights, value[1], value[2])
    return False


def tell_apart(net, weights, costs, others):
    """Whether two values of any kind are costs that no sum tells apart, but whose worths are unlike."""
    if not are_costs(net, costs) or not are_costs(net, others):
        return False
    difference = difference_of(costs, others)
    _, tops = in_integers(weights)
    return worth_of(tops, difference) != 0 and sight_of(net).hides(difference)


def tie_told(net, tie):
    """What told tells of the cost of this tie alone."""
    need_tie(net, tie)
    return told(net, weights_of(net, net.ties.index(tie)))


def shows_tie_told(net, tie, value):
    """Whether any value is such a result as tie_told tells of this tie."""
    need_tie(net, tie)
    return shows_told(net, weights_of(net, net.ties.index(tie)), value)


def sure_ties(net):
    """The ascending tuple of the numbers of all told ties."""
    if surely_hidden(net) == 0:
        # All ties are told exactly if no part is blind.
        return tuple(range(len(net)))
    hidden = sight_of(net).hidden
    return tuple([number for number in range(len(net)) if not any([one[number] for one in hidden])])


def whole(net):
    """("all", signed ways for each tie), or ("not", number, costs, others) for a tie that is not told."""
    sight = sight_of(net)
    rows = []
    for number in range(len(net)):
        weights = weights_of(net, number)
        difference = sight.unseen(weights)
        if difference is not None:
            costs, others = apart(difference)
            return ("not", number, costs, others)
        rows.append(sight.making(weights))
    return ("all", tuple(rows))


def shows_whole(net, value):
    """Whether any value is such a result as whole tells."""
    if not isinstance(value, tuple):
        return False
    if len(value) == 2 and value[0] == "all":
        return make_all(net, value[1], [(number,) for number in range(len(net))])
    if len(value) == 4 and value[0] == "not" and is_integer(value[1]) and 0 <= value[1] < len(net):
        return tell_apart(net, weights_of(net, value[1]), value[2], value[3])
    return False


def base(net):
    """As few ways as can be, ascending, by which all weights are made that signed ways make."""
    return tuple([way for way, row, difference in sight_of(net).taken])


def shows_base(net, value):
    """Whether any value is such a result as base tells."""
    if not are_ascending_ways(net, value) or len(value) != len(base(net)):
        return False
    sight = Sight(len(net))
    for way in value:
        sight.look(way, row_of(net, way))
    return len(value) == len(sight.taken)

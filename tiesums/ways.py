"""Ways between places that watch, and the sums of costs along them."""

from tiesums.errors import BadCosts, BadWay
from tiesums.fractions import are_fractions, total
from tiesums.nets import in_sequence


def _tie_numbers(net):
    numbers = {}
    for number, (one, other) in enumerate(net.ties):
        numbers[(one, other)] = number
        numbers[(other, one)] = number
    return numbers


def _numbers_along(numbers, way):
    return tuple(sorted([numbers[step] for step in zip(way, way[1:])]))


def _joins_watchers(net, path):
    # Both ends watch, and the first one stands ahead of the last one.
    ends = (path[0], path[-1])
    return ends == in_sequence(net.watchers, ends)


def is_way(net, value):
    """Whether any value is a way of the net."""
    if not isinstance(value, tuple) or not 2 <= len(value) <= len(net.places):
        return False
    if not all([place in net.places for place in value]) or len(set(value)) != len(value):
        return False
    steps = [in_sequence(net.places, step) for step in zip(value, value[1:])]
    return _joins_watchers(net, value) and all([step in net.ties for step in steps])


def are_ascending_ways(net, value):
    """Whether any value is an ascending tuple of ways of the net, none twice."""
    if not isinstance(value, tuple) or not all([is_way(net, way) for way in value]):
        return False
    return all([way < behind for way, behind in zip(value, value[1:])])


def are_costs(net, value):
    """Whether any value is a tuple of fractions, one for each tie: costs, or weights."""
    return are_fractions(value) and len(value) == len(net)


def are_alike(net, costs, others):
    """Whether two values of any kind are costs by which all ways have the same sums."""
    return are_costs(net, costs) and are_costs(net, others) and sums(net, costs) == sums(net, others)


def ways(net):
    """The ascending tuple of all ways."""
    tied = {place: net.tied(place) for place in net.places}
    found = []
    paths = [(place,) for place in net.watchers]
    while len(paths) > 0:
        paths = [(*path, place) for path in paths for place in tied[path[-1]] if place not in path]
        found.extend([path for path in paths if _joins_watchers(net, path)])
    return tuple(sorted(found))


def rows_of(net, some):
    """For each of some ways the ascending tuple of the numbers of the ties that it goes along."""
    numbers = _tie_numbers(net)
    return [_numbers_along(numbers, way) for way in some]


def along(net, way):
    """The ascending tuple of the numbers of the ties that the way goes along."""
    if not is_way(net, way):
        raise BadWay(way)
    return _numbers_along(_tie_numbers(net), way)


def sums(net, costs):
    """The sums of all ways, in their sequence."""
    if not are_costs(net, costs):
        raise BadCosts(costs)
    return tuple([total(tuple([costs[number] for number in row])) for row in rows_of(net, ways(net))])

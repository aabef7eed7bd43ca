"""Ways between places that watch, and the sums of costs along them."""

from tiesums.errors import BadCosts, BadWay
from tiesums.fractions import are_fractions, cut
from tiesums.rows import Sight, in_integers, sum_along


class Walk:
    """Goes all ways of a net, one at a time, ascending."""

    def __init__(self, net):
        self.onward = {place: [] for place in net.places}
        for (place, other), number in sorted(list(net.numbers.items()), reverse=True):
            self.onward[place].append((other, number))
        # A way leads to a watcher that stands behind the one at which it begins.
        self.ends = {place: net.watchers[at:] for at, place in enumerate(net.watchers, start=1)}
        # What was put here last is gone on with first, so what stands ahead by its letters is put here last.
        self.paths = [((place,), ()) for place in sorted(net.watchers[:-1], reverse=True)]

    def step(self):
        """(way, row) for the next way, its ties numbered in the row as it goes along them. None if there is none."""
        while len(self.paths) > 0:
            path, row = self.paths.pop()
            for place, number in self.onward[path[-1]]:
                if place not in path:
                    self.paths.append(((*path, place), (*row, number)))
            if path[-1] in self.ends[path[0]]:
                return path, row
        return None


def walked(net):
    """The list of (way, row) for all ways, ascending."""
    # Kept with the net, which never changes, as this is asked again and again.
    if net.walked is None:
        walk, found = Walk(net), []
        while (step := walk.step()) is not None:
            found.append(step)
        net.walked = found
    return net.walked


def sight_of(net):
    """What all ways show."""
    if net.sight is None:
        walk, sight = Walk(net), Sight(len(net))
        # As soon as nothing is hidden no further way shows more.
        while len(sight.hidden) > 0 and (step := walk.step()) is not None:
            way, row = step
            sight.look(way, row)
        net.sight = sight
    return net.sight


def row_of(net, way):
    """The numbers of the ties that the way goes along, in its sequence."""
    return [net.numbers[step] for step in zip(way, way[1:])]


def is_way(net, value):
    """Whether any value is a way of the net."""
    if not isinstance(value, tuple) or not 2 <= len(value) <= len(net.places):
        return False
    if not all([isinstance(place, str) for place in value]) or len(set(value)) != len(value):
        return False
    if value[0] not in net.watchers or value[-1] not in net.watchers:
        return False
    if net.places.index(value[0]) > net.places.index(value[-1]):
        return False
    return all([step in net.numbers for step in zip(value, value[1:])])


def are_ascending_ways(net, value):
    """Whether any value is an ascending tuple of ways of the net, none twice."""
    if not isinstance(value, tuple) or not all([is_way(net, way) for way in value]):
        return False
    return all([way < behind for way, behind in zip(value, value[1:])])


def are_costs(net, value):
    """Whether any value is a tuple of fractions, one for each tie: costs, or weights."""
    return isinstance(value, tuple) and len(value) == len(net) and are_fractions(value)


def are_alike(net, costs, others):
    """Whether two values of any kind are costs by which all ways have the same sums."""
    if not are_costs(net, costs) or not are_costs(net, others):
        return False
    _, tops = in_integers((*costs, *others))
    return sight_of(net).hides([other - one for one, other in zip(tops, tops[len(net):])])


def ways(net):
    """The ascending tuple of all ways."""
    return tuple([way for way, row in walked(net)])


def along(net, way):
    """The ascending tuple of the numbers of the ties that the way goes along."""
    if not is_way(net, way):
        raise BadWay(way)
    return tuple(sorted(row_of(net, way)))


def sums(net, costs):
    """The sums of all ways, in their sequence."""
    if not are_costs(net, costs):
        raise BadCosts(costs)
    low, tops = in_integers(costs)
    return tuple([cut(sum_along(row, tops), low) for way, row in walked(net)])

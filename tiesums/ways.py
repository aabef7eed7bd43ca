"""Ways between places that watch, and the sums of costs along them."""

from tiesums.errors import BadCosts, BadWay
from tiesums.fractions import are_fractions, cut
from tiesums.rows import Sight, difference_of, in_integers, sum_along


def _onward(net):
    """For each place (place, its bit, number of the tie) for all that are tied to it, the last one by letters first."""
    bits = {place: 1 << at for at, place in enumerate(net.places)}
    onward = {place: [] for place in net.places}
    for (place, other), number in sorted(list(net.numbers.items()), reverse=True):
        onward[place].append((other, bits[other], number))
    return onward


def _beginnings(net):
    """(place, its bit, ends) for each place at which ways begin, by letters: ends are those to which they can lead."""
    bits = [1 << net.places.index(place) for place in net.watchers]
    # A way leads to a watcher that stands behind the one at which it begins.
    return sorted([(place, bits[at], sum(bits[at + 1:])) for at, place in enumerate(net.watchers[:-1])])


def going(net):
    """Yields (way, row) for all ways, ascending, the ties numbered in the row as the way goes along them."""
    if net.walked is not None:
        yield from list(net.walked.items())
        return
    onward = _onward(net)
    for start, first, ends in _beginnings(net):
        paths = [((start,), (), first, first, ends)]
        while len(paths) > 0:
            path, row, here, seen, left = paths.pop()
            if left & here:
                yield path, row
                left ^= here
            # What was put here last is gone on with first: this is why places stand onward as they do.
            if left:
                for place, bit, number in onward[path[-1]]:
                    if not seen & bit:
                        paths.append(((*path, place), (*row, number), bit, seen | bit, left))


def walked(net):
    """The dict of the rows of all ways, by the ways, ascending."""
    # Kept with the net, which never changes, as this is asked again and again.
    if net.walked is None:
        net.walked = dict(going(net))
    return net.walked


def _unwatched(net):
    """(around, met, out) for each lot in which nobody watches, as masks.

    around: the places outside that are tied to it; met: the ties that meet it; out: those that lead out of it.
    """
    found = [(0, 0, 0, 0)]
    for at, place in enumerate(net.places):
        if place not in net.watchers:
            near = sum([1 << other for other, name in enumerate(net.places) if (place, name) in net.numbers])
            ties = sum([1 << number for number, tie in enumerate(net.ties) if place in tie])
            found = found + [(lot | 1 << at, around | near, met | ties, out ^ ties) for lot, around, met, out in found]
    return [(around & ~lot, met, out) for lot, around, met, out in found]


def _bent(net):
    """Masks of ties: for each of them all ways hide a difference that is odd at just these ties."""
    found = []
    for around, met, out in _unwatched(net):
        # Each time without the lowest bit.
        second = around & (around - 1)
        third = second & (second - 1)
        if second == 0:
            # No way goes along these ties at all: it could not get out again.
            found.extend([1 << number for number in range(len(net)) if met & 1 << number])
        elif third == 0:
            # What comes in by the one place leaves by the other one: if in costs one more, out costs one less.
            found.append(out)
    return found


def surely_hidden(net):
    """How many differences at least all ways hide, none of them made of the others: 0 exactly if no part is blind."""
    if net.surely is None:
        found = []
        for mask in _bent(net):
            for one in found:
                mask = min(mask, mask ^ one)
            if mask != 0:
                found.append(mask)
        net.surely = len(found)
    return net.surely


def _looked(net):
    many, least = len(net), 0
    sight = Sight(many)
    for at, (way, row) in enumerate(going(net)):
        # Most nets with few ways are through ahead of this.
        if at == many:
            least = surely_hidden(net)
        sight.look(way, row)
        # As soon as no more than this is hidden no further way shows more.
        if len(sight.hidden) == least:
            break
    return sight


def sight_of(net):
    """What all ways show."""
    if net.sight is None:
        net.sight = _looked(net)
    return net.sight


def row_of(net, way):
    """The numbers of the ties that the way goes along, in its sequence."""
    return [net.numbers[step] for step in zip(way, way[1:])]


def is_way(net, value):
    """Whether any value is a way of the net."""
    if not isinstance(value, tuple) or not all([isinstance(place, str) for place in value]):
        return False
    if net.walked is not None:
        return value in net.walked
    if len(value) < 2 or len(set(value)) != len(value):
        return False
    if value[0] not in net.watchers or value[-1] not in net.watchers[net.watchers.index(value[0]):]:
        return False
    return all([step in net.numbers for step in zip(value, value[1:])])


def are_ascending_ways(net, value):
    """Whether any value is an ascending tuple of ways of the net, none twice."""
    if not isinstance(value, tuple) or not all([is_way(net, way) for way in value]):
        return False
    return all([way < behind for way, behind in zip(value, value[1:])])


def are_costs(net, value):
    """Whether any value is a tuple of fractions, one for each tie: costs, or weights."""
    return isinstance(value, tuple) and len(value) == len(net) and are_fractions(value)


def are_alike(net, costs, others):
    """Whether two values of any kind are costs by which all ways have the same sums."""
    if not are_costs(net, costs) or not are_costs(net, others):
        return False
    return sight_of(net).hides(difference_of(costs, others))


def ways(net):
    """The ascending tuple of all ways."""
    return tuple(walked(net))


def along(net, way):
    """The ascending tuple of the numbers of the ties that the way goes along."""
    if not is_way(net, way):
        raise BadWay(way)
    return tuple(sorted(row_of(net, way)))


def sums(net, costs):
    """The sums of all ways, in their sequence."""
    if not are_costs(net, costs):
        raise BadCosts(costs)
    low, tops = in_integers(costs)
    return tuple([cut(sum_along(row, tops), low) for row in walked(net).values()])

"""Parts of a net that at most two places outside meet, and those of them in which nobody watches."""

from tiesums.errors import BadPart, NotBlind
from tiesums.nets import in_sequence
from tiesums.rows import apart
from tiesums.ways import are_alike

MOST_AROUND = 2


class Plan:
    """Lots of places of a net as masks, integers with a bit for each place, so that many can be asked after."""

    def __init__(self, net):
        self.places = net.places
        self.bits = {place: 1 << at for at, place in enumerate(net.places)}
        self.near = {place: 0 for place in net.places}
        for one, other in net.ties:
            self.near[one] |= self.bits[other]
            self.near[other] |= self.bits[one]

    def lots(self, places):
        """(lot, mask) for all lots of some places, in sequence, () among them, ascending."""
        found = [((), 0)]
        for place in places:
            found = found + [((*lot, place), mask | self.bits[place]) for lot, mask in found]
        return sorted(found)

    def parts(self, places):
        """(lot, mask) for all parts that have some of these places alone, ascending."""
        return [(lot, mask) for lot, mask in self.lots(places) if self.is_part(lot, mask)]

    def around(self, lot, mask):
        """The places outside of the lot that are tied to places of it, as a mask."""
        near = 0
        for place in lot:
            near |= self.near[place]
        return near & ~mask

    def is_part(self, lot, mask):
        """Whether the lot is a part."""
        more = self.around(lot, mask)
        # Twice without its lowest bit: what is left are the places behind the first two.
        for _ in range(MOST_AROUND):
            more &= more - 1
        if more != 0:
            return False
        return any([self.near[place] != 0 for place in lot]) and self._hangs_together(lot, mask)

    def _hangs_together(self, lot, mask):
        # From the first place of the lot to all that ties among its places lead to.
        reached, more = 0, self.bits[lot[0]]
        while more != reached:
            reached = more
            for place in lot:
                if self.bits[place] & more:
                    more |= self.near[place] & mask
        return reached == mask


def is_lot(net, value):
    """Whether any value is a lot of places of the net."""
    return isinstance(value, tuple) and value == in_sequence(net.places, value)


def meets(lot, places):
    """Whether some of the places are in the lot."""
    return any([place in lot for place in places])


def _around(net, lot):
    """The lot of all places outside of the lot that are tied to places of it."""
    ends = [place for tie in net.ties if meets(lot, tie) for place in tie]
    return tuple([place for place in net.places if place in ends and place not in lot])


def _is_part(net, value):
    if not is_lot(net, value):
        return False
    plan = Plan(net)
    return plan.is_part(value, sum([plan.bits[place] for place in value]))


def _is_blind(net, value):
    return _is_part(net, value) and not meets(value, net.watchers)


def parts(net):
    """The ascending tuple of all parts."""
    return tuple([lot for lot, mask in Plan(net).parts(net.places)])


def edge(net, lot):
    """The lot of the places outside of the part that are tied to places of it."""
    if not _is_part(net, lot):
        raise BadPart(lot)
    return _around(net, lot)


def blind(net):
    """("blind", lot, edge) with a blind part, or ("none",)."""
    found = Plan(net).parts([place for place in net.places if place not in net.watchers])
    if len(found) == 0:
        return ("none",)
    lot, _ = found[0]
    return ("blind", lot, _around(net, lot))


def shows_blind(net, value):
    """Whether any value is such a result as blind tells."""
    if value == ("none",):
        return blind(net) == ("none",)
    if not isinstance(value, tuple) or len(value) != 3 or value[0] != "blind":
        return False
    return _is_blind(net, value[1]) and value[2] == _around(net, value[1])


def _need_blind(net, lot):
    if not _is_blind(net, lot):
        raise NotBlind(lot)


def _bend(lot, ends, tie):
    """What the tie costs more if going into the part by the first one of two ends is dearer, and out again cheaper."""
    if not meets(lot, tie):
        return 0
    if len(ends) < 2 or ends[0] in tie:
        return 1
    return -1 if ends[1] in tie else 0


def bent(net, lot):
    """(costs, others): two costs that no sum tells apart, as nobody watches in this part."""
    _need_blind(net, lot)
    ends = _around(net, lot)
    return apart([_bend(lot, ends, tie) for tie in net.ties])


def shows_bent(net, lot, value):
    """Whether any value is such a result as bent tells of this part."""
    _need_blind(net, lot)
    if not isinstance(value, tuple) or len(value) != 2 or not are_alike(net, value[0], value[1]):
        return False
    ends = _around(net, lot)
    unlike = [tie for tie, one, other in zip(net.ties, value[0], value[1]) if one != other]
    if len(ends) == 2:
        return unlike == [tie for tie in net.ties if meets(lot, tie) and meets(ends, tie)]
    return len(unlike) > 0 and all([meets(lot, tie) for tie in unlike])

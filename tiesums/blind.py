"""Parts of a net that at most two places outside meet, and those of them in which nobody watches."""

from tiesums.errors import BadPart, NotBlind
from tiesums.nets import in_sequence
from tiesums.rows import apart
from tiesums.ways import are_alike


class Plan:
    """Lots of places of a net as masks, integers with a bit for each place, so that many can be asked after.

    seen: what tied tells of the masks that were looked at; known: what all_lots tells, None until it is asked.
    """

    def __init__(self, net):
        self.bits = {place: 1 << at for at, place in enumerate(net.places)}
        self.near = {place: 0 for place in net.places}
        for one, other in net.ties:
            self.near[one] |= self.bits[other]
            self.near[other] |= self.bits[one]
        self.seen = {}
        self.known = None

    def all_lots(self):
        """(lots, parts): (lot, mask) for all lots, and for all parts, ascending."""
        if self.known is None:
            lots = self.lots(list(self.bits))
            self.known = (lots, self.parts(lots))
        return self.known

    def lots(self, places):
        """(lot, mask) for all lots of some places, in sequence, () among them."""
        found = [((), 0, 0)]
        for place in places:
            bit, near = self.bits[place], self.near[place]
            found = found + [((*lot, place), mask | bit, more | near) for lot, mask, more in found]
        self.seen.update({mask: more for _, mask, more in found})
        return [(lot, mask) for lot, mask, _ in found]

    def mask_of(self, lot):
        """The mask of a lot."""
        return sum([self.bits[place] for place in lot])

    def around(self, lot):
        """The lot of all places outside of the lot that are tied to places of it."""
        mask = self.mask_of(lot)
        more = self.tied(mask) & ~mask
        return tuple([place for place, bit in self.bits.items() if bit & more])

    def parts(self, lots):
        """Those (lot, mask) of some that are parts, ascending."""
        return sorted([(lot, mask) for lot, mask in lots if self.is_part(mask)])

    def tied(self, mask):
        """The places that are tied to places of this lot, in it or outside, as a mask."""
        if mask not in self.seen:
            found = 0
            for place, bit in self.bits.items():
                if bit & mask:
                    found |= self.near[place]
            self.seen[mask] = found
        return self.seen[mask]

    def is_part(self, mask):
        """Whether the lot of this mask is a part."""
        tied = self.tied(mask)
        around = tied & ~mask
        # Each time without its lowest bit: of two bits at most nothing is left.
        around &= around - 1
        around &= around - 1
        return tied != 0 and around == 0 and self._hangs_together(mask)

    def _hangs_together(self, mask):
        # From one place of the lot to all that ties among its places lead to.
        reached, more = 0, mask & -mask
        while more != reached:
            reached = more
            more = reached | self.tied(reached) & mask
        return reached == mask


def plan_of(net):
    """The plan of the net, made once."""
    if net.plan is None:
        net.plan = Plan(net)
    return net.plan


def is_lot(net, value):
    """Whether any value is a lot of places of the net."""
    return isinstance(value, tuple) and value == in_sequence(net.places, value)


def meets(lot, places):
    """Whether some of the places are in the lot."""
    return any([place in lot for place in places])


def _is_part(net, value):
    if not is_lot(net, value):
        return False
    plan = plan_of(net)
    return plan.is_part(plan.mask_of(value))


def _is_blind(net, value):
    return _is_part(net, value) and not meets(value, net.watchers)


def parts(net):
    """The ascending tuple of all parts."""
    _, found = plan_of(net).all_lots()
    return tuple([lot for lot, mask in found])


def edge(net, lot):
    """The lot of the places outside of the part that are tied to places of it."""
    if not _is_part(net, lot):
        raise BadPart(lot)
    return plan_of(net).around(lot)


def blind(net):
    """("blind", lot, edge) with a blind part, or ("none",)."""
    plan = plan_of(net)
    found = plan.parts(plan.lots([place for place in net.places if place not in net.watchers]))
    if len(found) == 0:
        return ("none",)
    lot, _ = found[0]
    return ("blind", lot, plan.around(lot))


def shows_blind(net, value):
    """Whether any value is such a result as blind tells."""
    if value == ("none",):
        return blind(net) == ("none",)
    if not isinstance(value, tuple) or len(value) != 3 or value[0] != "blind":
        return False
    return _is_blind(net, value[1]) and value[2] == plan_of(net).around(value[1])


def _need_blind(net, lot):
    if not _is_blind(net, lot):
        raise NotBlind(lot)


def _bend(lot, ends, tie):
    """What the tie costs more if going into the part by the first one of two ends is dearer, and out again cheaper."""
    if not meets(lot, tie):
        return 0
    if len(ends) < 2 or ends[0] in tie:
        return 1
    return -1 if ends[1] in tie else 0


def bent(net, lot):
    """(costs, others): two costs that no sum tells apart, as nobody watches in this part."""
    _need_blind(net, lot)
    ends = plan_of(net).around(lot)
    return apart([_bend(lot, ends, tie) for tie in net.ties])


def shows_bent(net, lot, value):
    """Whether any value is such a result as bent tells of this part."""
    _need_blind(net, lot)
    if not isinstance(value, tuple) or len(value) != 2 or not are_alike(net, value[0], value[1]):
        return False
    ends = plan_of(net).around(lot)
    unlike = [tie for tie, one, other in zip(net.ties, value[0], value[1]) if one != other]
    if len(ends) == 2:
        return unlike == [tie for tie in net.ties if meets(lot, tie) and meets(ends, tie)]
    return len(unlike) > 0 and all([meets(lot, tie) for tie in unlike])

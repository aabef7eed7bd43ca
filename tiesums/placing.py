"""Who has to watch so that all ties are told, and what one watcher more would tell."""

from tiesums.blind import Plan, is_lot, meets
from tiesums.told import sure_ties


def _missed(found, mask):
    """The first part in which no place of the lot of this mask is, None if there is none.

    If there is none, these places, watching, tell all ties.
    """
    for part, bits in found:
        if bits & mask == 0:
            return part
    return None


def _lots_of(plan, size):
    return [(lot, mask) for lot, mask in plan.lots(plan.places) if len(lot) == size]


def _fewest(plan, found):
    """The first lot of as few places as can be that misses no part."""
    lots = plan.lots(plan.places)
    for size in range(1, len(plan.places)):
        for lot, mask in lots:
            if len(lot) == size and _missed(found, mask) is None:
                return lot
    return plan.places


def least(net):
    """(lot, reasons): as few places as can be that tell all ties, and for each lesser lot a part that it misses."""
    plan = Plan(net)
    found = plan.parts(net.places)
    chosen = _fewest(plan, found)
    return (chosen, tuple([(lot, _missed(found, mask)) for lot, mask in _lots_of(plan, len(chosen) - 1)]))


def shows_least(net, value):
    """Whether any value is such a result as least tells."""
    if not isinstance(value, tuple) or len(value) != 2 or not is_lot(net, value[0]):
        return False
    lot, reasons = value
    plan = Plan(net)
    lesser = _lots_of(plan, len(lot) - 1)
    if not isinstance(reasons, tuple) or len(reasons) != len(lesser):
        return False
    found = {part: True for part, mask in plan.parts(net.places)}
    if not all([meets(part, lot) for part in found]):
        return False
    shown = [_shows_reason(net, found, other, reason) for (other, mask), reason in zip(lesser, reasons)]
    return all(shown)


def _shows_reason(net, found, lot, value):
    if not isinstance(value, tuple) or len(value) != 2 or value[0] != lot:
        return False
    return is_lot(net, value[1]) and value[1] in found and not meets(value[1], lot)


def gains(net):
    """(place, numbers of the ties that are told if it watches, too) for each place that does not watch."""
    others = [place for place in net.places if place not in net.watchers]
    return tuple([(place, sure_ties(net.with_watcher(place))) for place in others])

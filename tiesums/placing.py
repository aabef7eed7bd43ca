"""Who has to watch so that all ties are told, and what one watcher more would tell."""

from tiesums.blind import Plan, is_lot
from tiesums.told import sure_ties


def _missed(found, mask):
    """The first part in which no place of the lot of this mask is."""
    for part, bits in found:
        if bits & mask == 0:
            return part
    return None


def _lots_of(lots, size):
    return sorted([(lot, mask) for lot, mask in lots if len(lot) == size])


def _fewest(lots, found):
    """The first lot of as few places as can be that misses no part: these places, watching, tell all ties."""
    # Most lots miss one of the smallest parts.
    for _, bits in sorted([(len(part), bits) for part, bits in found]):
        lots = [(lot, mask) for lot, mask in lots if mask & bits != 0]
    _, first = min([(len(lot), lot) for lot, mask in lots])
    return first


def least(net):
    """(lot, reasons): as few places as can be that tell all ties, and for each lesser lot a part that it misses."""
    plan = Plan(net)
    lots = plan.lots(net.places)
    found = plan.parts(lots)
    chosen = _fewest(lots, found)
    return (chosen, tuple([(lot, _missed(found, mask)) for lot, mask in _lots_of(lots, len(chosen) - 1)]))


def shows_least(net, value):
    """Whether any value is such a result as least tells."""
    if not isinstance(value, tuple) or len(value) != 2 or not is_lot(net, value[0]):
        return False
    lot, reasons = value
    plan = Plan(net)
    lots = plan.lots(net.places)
    lesser = _lots_of(lots, len(lot) - 1)
    if not isinstance(reasons, tuple) or len(reasons) != len(lesser):
        return False
    found = {part: mask for part, mask in plan.parts(lots)}
    if _missed(list(found.items()), plan.mask_of(lot)) is not None:
        return False
    return all([_shows_reason(net, found, other, reason) for other, reason in zip(lesser, reasons)])


def _shows_reason(net, found, lesser, value):
    lot, mask = lesser
    if not isinstance(value, tuple) or len(value) != 2 or value[0] != lot:
        return False
    return is_lot(net, value[1]) and value[1] in found and found[value[1]] & mask == 0


def gains(net):
    """(place, numbers of the ties that are told if it watches, too) for each place that does not watch."""
    others = [place for place in net.places if place not in net.watchers]
    return tuple([(place, sure_ties(net.with_watcher(place))) for place in others])

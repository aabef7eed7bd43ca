"""Who has to watch so that all ties are told, and what one watcher more would tell."""

from tiesums.blind import is_lot, plan_of
from tiesums.told import sure_ties


def _missed(found, mask):
    """The first part in which no place of the lot of this mask is."""
    for part, bits in found:
        if bits & mask == 0:
            return part
    return None


def _lots_of(lots, size):
    return sorted([(lot, mask) for lot, mask in lots if len(lot) == size])


def _smallest(found):
    """The masks of those parts in which no smaller one lies."""
    smallest = []
    for _, bits in sorted([(len(part), bits) for part, bits in found]):
        if not any([bits & one == one for one in smallest]):
            smallest.append(bits)
    return smallest


def _fewest(lots, found):
    """The first lot of as few places as can be that misses no part: these places, watching, tell all ties."""
    smallest = _smallest(found)
    size, able = 0, []
    while len(able) == 0:
        size += 1
        able = [(lot, mask) for lot, mask in lots if len(lot) == size]
        for bits in smallest:
            able = [(lot, mask) for lot, mask in able if mask & bits != 0]
    first, _ = min(able)
    return first


def least(net):
    """(lot, reasons): as few places as can be that tell all ties, and for each lesser lot a part that it misses."""
    lots, found = plan_of(net).all_lots()
    chosen = _fewest(lots, found)
    return (chosen, tuple([(lot, _missed(found, mask)) for lot, mask in _lots_of(lots, len(chosen) - 1)]))


def shows_least(net, value):
    """Whether any value is such a result as least tells."""
    if not isinstance(value, tuple) or len(value) != 2 or not is_lot(net, value[0]):
        return False
    lot, reasons = value
    lots, found = plan_of(net).all_lots()
    lesser = _lots_of(lots, len(lot) - 1)
    if not isinstance(reasons, tuple) or len(reasons) != len(lesser):
        return False
    if _missed(found, plan_of(net).mask_of(lot)) is not None:
        return False
    parts = {part: mask for part, mask in found}
    return all([_shows_reason(net, parts, other, reason) for other, reason in zip(lesser, reasons)])


def _shows_reason(net, parts, lesser, value):
    lot, mask = lesser
    if not isinstance(value, tuple) or len(value) != 2 or value[0] != lot:
        return False
    return is_lot(net, value[1]) and value[1] in parts and parts[value[1]] & mask == 0


def gains(net):
    """(place, numbers of the ties that are told if it watches, too) for each place that does not watch."""
    others = [place for place in net.places if place not in net.watchers]
    return tuple([(place, sure_ties(net.with_watcher(place))) for place in others])

"""Who has to watch so that all ties are told, and what one watcher more would tell."""

from tiesums.blind import all_lots, is_lot, meets, parts
from tiesums.told import sure_ties


def _missed(found, lot):
    """A part in which no place of the lot is, None if there is none: then these places, watching, tell all ties."""
    for part in found:
        if not meets(part, lot):
            return part
    return None


def _lots_of(net, size):
    return [lot for lot in all_lots(net) if len(lot) == size]


def least(net):
    """(lot, reasons): as few places as can be that tell all ties, and for each lesser lot a part that it misses."""
    found = parts(net)
    enough = [lot for lot in all_lots(net) if _missed(found, lot) is None]
    size = min([len(lot) for lot in enough])
    chosen = [lot for lot in enough if len(lot) == size]
    return (chosen[0], tuple([(lot, _missed(found, lot)) for lot in _lots_of(net, size - 1)]))


def shows_least(net, value):
    """Whether any value is such a result as least tells."""
    if not isinstance(value, tuple) or len(value) != 2 or not is_lot(net, value[0]):
        return False
    lot, reasons = value
    found = parts(net)
    if _missed(found, lot) is not None:
        return False
    lesser = _lots_of(net, len(lot) - 1)
    if not isinstance(reasons, tuple) or len(reasons) != len(lesser):
        return False
    return all([_shows_reason(found, other, reason) for other, reason in zip(lesser, reasons)])


def _shows_reason(found, lot, value):
    if not isinstance(value, tuple) or len(value) != 2:
        return False
    return value[0] == lot and value[1] in found and not meets(value[1], lot)


def gains(net):
    """(place, numbers of the ties that are told if it watches, too) for each place that does not watch."""
    others = [place for place in net.places if place not in net.watchers]
    return tuple([(place, sure_ties(net.with_watcher(place))) for place in others])

"""Parts of a net that at most two places outside meet, and those of them in which nobody watches."""

from tiesums.errors import BadPart, NotBlind
from tiesums.nets import in_sequence
from tiesums.rows import apart
from tiesums.ways import are_alike


def all_lots(net):
    """All lots of places of the net, () among them, ascending."""
    lots = [()]
    for place in net.places:
        lots = lots + [(*lot, place) for lot in lots]
    return sorted(lots)


def is_lot(net, value):
    """Whether any value is a lot of places of the net."""
    return isinstance(value, tuple) and value == in_sequence(net.places, value)


def meets(lot, places):
    """Whether some of the places are in the lot."""
    return any([place in lot for place in places])


def _around(net, lot):
    """The lot of all places outside of the lot that are tied to places of it."""
    ends = [place for tie in net.ties if meets(lot, tie) for place in tie]
    return tuple([place for place in net.places if place in ends and place not in lot])


def _hangs_together(net, lot):
    reached, more = (), lot[:1]
    while len(more) > 0:
        reached = (*reached, *more)
        more = in_sequence(lot, _around(net, reached))
    return len(reached) == len(lot)


def _is_part(net, value):
    if not is_lot(net, value) or not any([meets(value, tie) for tie in net.ties]):
        return False
    return len(_around(net, value)) <= 2 and _hangs_together(net, value)


def _is_blind(net, value):
    return _is_part(net, value) and not meets(value, net.watchers)


def parts(net):
    """The ascending tuple of all parts."""
    return tuple([lot for lot in all_lots(net) if _is_part(net, lot)])


def edge(net, lot):
    """The lot of the places outside of the part that are tied to places of it."""
    if not _is_part(net, lot):
        raise BadPart(lot)
    return _around(net, lot)


def blind(net):
    """("blind", lot, edge) with a blind part, or ("none",)."""
    for lot in all_lots(net):
        if _is_blind(net, lot):
            return ("blind", lot, _around(net, lot))
    return ("none",)


def shows_blind(net, value):
    """Whether any value is such a result as blind tells."""
    if value == ("none",):
        return blind(net) == ("none",)
    if not isinstance(value, tuple) or len(value) != 3 or value[0] != "blind":
        return False
    return _is_blind(net, value[1]) and value[2] == _around(net, value[1])


def _need_blind(net, lot):
    if not _is_blind(net, lot):
        raise NotBlind(lot)


def _bend(lot, ends, tie):
    """What the tie costs more if going into the part by the first one of two ends is dearer, and out again cheaper."""
    if not meets(lot, tie):
        return 0
    if len(ends) < 2 or ends[0] in tie:
        return 1
    return -1 if ends[1] in tie else 0


def bent(net, lot):
    """(costs, others): two costs that no sum tells apart, as nobody watches in this part."""
    _need_blind(net, lot)
    ends = _around(net, lot)
    return apart([_bend(lot, ends, tie) for tie in net.ties])


def shows_bent(net, lot, value):
    """Whether any value is such a result as bent tells of this part."""
    _need_blind(net, lot)
    if not isinstance(value, tuple) or len(value) != 2 or not are_alike(net, value[0], value[1]):
        return False
    ends = _around(net, lot)
    unlike = [tie for tie, one, other in zip(net.ties, value[0], value[1]) if one != other]
    if len(ends) == 2:
        return unlike == [tie for tie in net.ties if meets(lot, tie) and meets(ends, tie)]
    return len(unlike) > 0 and all([meets(lot, tie) for tie in unlike])

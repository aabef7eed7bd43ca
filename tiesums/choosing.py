"""The cheapest further watchers and ties by which wished ties are told."""

from itertools import combinations

from tiesums.errors import BadOffers, BadWishes
from tiesums.fractions import is_integer
from tiesums.nets import MOST_TIES, Net, in_sequence, text_of
from tiesums.rows import apart
from tiesums.told import make_all, tell_apart, weights_of
from tiesums.ways import sight_of

MOST_OFFERS = 4
MOST_PRICE = 99


def _is_offer(net, value):
    if not isinstance(value, tuple) or len(value) < 3:
        return False
    if not is_integer(value[-1]) or not 1 <= value[-1] <= MOST_PRICE:
        return False
    if value[0] == "watch" and len(value) == 3:
        return value[1] in net.places and value[1] not in net.watchers
    pair = value[1:-1]
    return value[0] == "tie" and len(pair) == 2 and pair == in_sequence(net.places, pair) and pair not in net


def _need_offers(net, offers):
    if not isinstance(offers, tuple) or not 1 <= len(offers) <= MOST_OFFERS:
        raise BadOffers(offers)
    if not all([_is_offer(net, offer) for offer in offers]):
        raise BadOffers(offers)
    # If nothing but the price tells two offers apart, one stands right behind the other.
    if not all([ahead[:-1] < offer[:-1] for ahead, offer in zip(offers, offers[1:])]):
        raise BadOffers(offers)


def _need_wishes(net, wishes):
    if not isinstance(wishes, tuple) or len(wishes) == 0 or not all([is_integer(wish) for wish in wishes]):
        raise BadWishes(wishes)
    if wishes[0] < 0 or wishes[-1] >= len(net):
        raise BadWishes(wishes)
    if not all([wish < behind for wish, behind in zip(wishes, wishes[1:])]):
        raise BadWishes(wishes)


def _price(choice):
    return sum([offer[-1] for offer in choice])


def _counts(net, choice):
    """Whether the net by the choice has few enough ties."""
    return len(net) + len([offer for offer in choice if offer[0] == "tie"]) <= MOST_TIES


def _choices(net, offers):
    """All choices that count, in sequence."""
    found, rows = [], list(offers)
    for many in range(len(rows) + 1):
        found.extend([choice for choice in combinations(rows, many) if _counts(net, choice)])
    return [row[2] for row in sorted([(_price(choice), len(choice), choice) for choice in found])]


def _by(net, choice):
    """The net by the choice."""
    if len(choice) == 0:
        # The net itself may know its ways by now.
        return net
    places = [offer[1] for offer in choice if offer[0] == "watch"]
    ties = [offer[1:-1] for offer in choice if offer[0] == "tie"]
    return Net(text_of(net.places, in_sequence(net.places, (*net.watchers, *places)), (*net.ties, *ties)))


def _hidden_wish(net, wishes):
    """(number, difference): a wish that is not told, and what all ways hide of it. None if all wishes are told."""
    for difference in sight_of(net).hidden:
        for number in wishes:
            if difference[number] != 0:
                return number, difference
    return None


def _making(net, wishes):
    sight = sight_of(net)
    return tuple([sight.making(weights_of(net, number)) for number in wishes])


def cheapest(net, offers, wishes):
    """("choice", price, choice, rows, reasons) for the first choice that is enough, or ("none", reasons)."""
    _need_offers(net, offers)
    _need_wishes(net, wishes)
    reasons = []
    for choice in _choices(net, offers):
        other = _by(net, choice)
        hidden = _hidden_wish(other, wishes)
        if hidden is None:
            return ("choice", _price(choice), choice, _making(other, wishes), tuple(reasons))
        number, difference = hidden
        costs, others = apart(difference)
        reasons.append((choice, number, costs, others))
    return ("none", tuple(reasons))


def shows_cheapest(net, offers, wishes, value):
    """Whether any value is such a result as cheapest tells of these offers and wishes."""
    _need_offers(net, offers)
    _need_wishes(net, wishes)
    choices = _choices(net, offers)
    if not isinstance(value, tuple):
        return False
    if len(value) == 2 and value[0] == "none":
        return _show_reasons(net, wishes, choices, value[1])
    if len(value) != 5 or value[0] != "choice" or not _is_choice(choices, value[2]):
        return False
    at = choices.index(value[2])
    if not is_integer(value[1]) or value[1] != _price(value[2]):
        return False
    other = _by(net, value[2])
    if not make_all(other, value[3], [(number,) for number in wishes]):
        return False
    return _show_reasons(net, wishes, choices[:at], value[4])


def _is_choice(choices, value):
    # True is 1 to Python, but it is no price.
    return value in choices and all([is_integer(offer[-1]) for offer in value])


def _show_reasons(net, wishes, choices, value):
    if not isinstance(value, tuple) or len(value) != len(choices):
        return False
    return all([_shows_reason(net, wishes, choice, reason) for choice, reason in zip(choices, value)])


def _shows_reason(net, wishes, choice, value):
    if not isinstance(value, tuple) or len(value) != 4 or not _is_choice([choice], value[0]):
        return False
    number = value[1]
    if not is_integer(number) or number not in wishes:
        return False
    other = _by(net, choice)
    return tell_apart(other, weights_of(other, number), value[2], value[3])

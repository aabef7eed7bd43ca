"""Values that several tests use."""

from tiesums.errors import BadNet, TieError
from tiesums.nets import Net

STAR = "places a b c m\nwatchers a b c\ntie a m\ntie b m\ntie c m"
HOUSE = "places a b c p\nwatchers a b c\ntie a b\ntie b c\ntie a c\ntie a p\ntie b p"


def nested(depth):
    """A tuple in a list in a tuple .., so deep."""
    value = 1
    for level in range(depth):
        value = (value,) if level % 2 else [value]
    return value


def any_values():
    """Values of all kinds that callers may pass, none of them a name, a fraction, a tie or a net's text."""
    return [
        0, 1, -1, 7, 10 ** 12 - 1, True, False, None,
        "", "A", "a b", "a\n", "\n", "1", "abcdefghi",
        (), (1,), ("a",), ("a", "m", "b"), (True, 1), (1, True), (1, 2, 3), ((2, 4),), ((("a", "m"),),),
        [], [1], [1, 2], ["a", "m"], ["a"], [("a", "m")],
        {}, {"a": 1}, {1: [2]}, {("a", "m"): None},
        Net(STAR), (Net(STAR), "m"), [Net(HOUSE)], {"net": Net(HOUSE)},
        TieError(1), BadNet("a"), (BadNet(None),), nested(30), nested(29),
    ]


def same(one, other):
    """Whether two values are the same in kind, too: True is not 1, a list no tuple."""
    if type(one) is not type(other):
        return False
    if isinstance(one, (tuple, list)):
        return len(one) == len(other) and all(same(a, b) for a, b in zip(one, other))
    return one == other


def raised(error, call, *args, **more):
    """The value of the error that the call raises, which is to be just of this kind."""
    try:
        result = call(*args, **more)
    except TieError as why:
        if type(why) is not error:
            raise AssertionError(f"{type(why).__name__}({why.value!r}) instead of {error.__name__}") from why
        return why.value
    raise AssertionError(f"{result!r} instead of {error.__name__}")

"""Values that several tests use."""

import itertools
import unittest

from plain import net_of
from tiesums.errors import BadNet, TieError
from tiesums.nets import Net

STAR = "places a b c m\nwatchers a b c\ntie a m\ntie b m\ntie c m"
HOUSE = "places a b c p\nwatchers a b c\ntie a b\ntie b c\ntie a c\ntie a p\ntie b p"

RING = net_of("abcde", "ace", "ab bc cd de ae")
ROW = net_of("edcba", "eca", "ed dc cb ba")
APART = net_of("abcdef", "abde", "ab bc ac de ef")
FIVE = net_of("pqrst", "pqrst", [pair for pair in itertools.combinations("pqrst", 2)])
FULL = net_of("abcdefgh", "abcdefgh", "ab ag ah bc bd ce cf cg de df dg eh fg fh")
BOUNDS = [FULL, net_of("abcdefgh", "af", FULL.ties), net_of("abcdefgh", "cde", FULL.ties[::-1])]
NETS = [Net(STAR), Net(HOUSE), RING, ROW, APART, FIVE, *BOUNDS, net_of("abc", "ab", "ac"), net_of("abcd", "ad", "ab cd")]


def nested(depth):
    """A tuple in a list in a tuple .., so deep."""
    value = 1
    for level in range(depth):
        value = (value,) if level % 2 else [value]
    return value


def any_values():
    """Values of all kinds that callers may pass, none of them a name, a fraction, a tie or a net's text."""
    return [
        0, 1, -1, 7, 10 ** 12 - 1, True, False, None,
        "", "A", "a b", "a\n", "\n", "1", "abcdefghi",
        (), (1,), ("a",), ("a", "m", "b"), (True, 1), (1, True), (1, 2, 3), ((2, 4),), ((("a", "m"),),),
        [], [1], [1, 2], ["a", "m"], ["a"], [("a", "m")],
        {}, {"a": 1}, {1: [2]}, {("a", "m"): None},
        Net(STAR), (Net(STAR), "m"), [Net(HOUSE)], {"net": Net(HOUSE)},
        TieError(1), BadNet("a"), (BadNet(None),), nested(30), nested(29),
    ]


def is_ascending(rows):
    return list(rows) == sorted(set(rows))


def same(one, other):
    """Whether two values are the same in kind, too: True is not 1, a list no tuple."""
    if type(one) is not type(other):
        return False
    if isinstance(one, (tuple, list)):
        return len(one) == len(other) and all(same(a, b) for a, b in zip(one, other))
    return one == other


def raised(error, call, *args, **more):
    """The value of the error that the call raises, which is to be just of this kind."""
    try:
        result = call(*args, **more)
    except TieError as why:
        if type(why) is not error:
            raise AssertionError(f"{type(why).__name__}({why.value!r}) instead of {error.__name__}") from why
        return why.value
    raise AssertionError(f"{result!r} instead of {error.__name__}")


class Checks(unittest.TestCase):
    """Tests that look at kinds, too."""

    def check(self, got, wanted):
        self.assertTrue(same(got, wanted), f"{got!r} instead of {wanted!r}")

    def check_right(self, shows, *args):
        """That a shows_ function takes the value, which stands last."""
        self.assertIs(shows(*args), True, f"{shows.__name__} refuses {args[-1]!r}")

    def check_wrong(self, shows, *args):
        """That a shows_ function does not take the value, which stands last."""
        self.assertIs(shows(*args), False, f"{shows.__name__} takes {args[-1]!r}")

    def check_spoiled(self, shows, *args):
        """That a shows_ function takes the value, which stands last, but nothing that is of another form."""
        self.check_right(shows, *args)
        for value in spoiled(args[-1]):
            self.check_wrong(shows, *args[:-1], value)


def spoiled(value):
    """What cannot be a result where this value is one: another kind, longer, or a pair that can be cut, somewhere."""
    if isinstance(value, str):
        yield from ("", "x y", value + value, value.upper(), [value], (value,), None)
    elif isinstance(value, int):
        yield from (str(value), None, (value,), [value])
        if value in (0, 1):
            yield bool(value)
    else:
        yield from (list(value), value + ((),), value + (None,), value + (True,), ((),) + value, (value,), [value])
        yield from ("".join(map(str, value)), dict(enumerate(value)), None, 7, True, Net(STAR))
        if len(value) == 2 and isinstance(value[0], int):
            yield from ((2 * value[0], 2 * value[1]), (-value[0], -value[1]), (value[0], 0), value[:1], (0, 2))
        for at, part in enumerate(value):
            for other in spoiled(part):
                yield value[:at] + (other,) + value[at + 1:]


def no_costs(net):
    """Values that are no costs, and no weights, for the ties of the net."""
    many = len(net.ties)
    whole = tuple((number, 1) for number in range(1, many + 1))
    found = [whole[1:], whole[:-1], whole + ((1, 1),), whole + whole, list(whole), (whole,), whole[0]]
    found += [(1, 2), (1, 1), tuple(range(many)), (1,) * many, (True,) * many, "1" * many, ("1/2",) * many, (None,) * many]
    for wrong in ((2, 4), (0, 2), (3, 0), (0, 0), (1, -2), (0, -1), (-2, -3), 1, 0, -1, True, False, None, "1", (1,), (),
                  (1, 1, 1), [1, 1], (True, 1), (1, True), (False, 1), ("1", 1), (1, "1"), ((1, 1), 1), ((1, 1),)):
        found += [(wrong,) + whole[1:], whole[:-1] + (wrong,), (wrong,) * many]
    return found + any_values()

"""What sums along rows of ties show of costs, and which weights rows make.

A row is a tuple of numbers of ties. A difference is a list of integers, one for each tie: what some costs are above
others. A row hides a difference that comes to 0 along it.
"""

from math import gcd, lcm

from tiesums.fractions import ONE, cut

ZERO = (0, 1)
MINUS_ONE = (-1, 1)


def in_integers(fractions):
    """(low, tops): these fractions are the tops, each divided by low."""
    low = 1
    for _, under in fractions:
        low = lcm(low, under)
    return low, [top * (low // under) for top, under in fractions]


def sum_along(row, difference):
    """What the difference comes to along the row."""
    return sum([difference[tie] for tie in row])


def worth_of(tops, difference):
    """What the difference comes to if each tie counts as often as the tops tell."""
    return sum([top * one for top, one in zip(tops, difference)])


def made(rows, numbers, many):
    """The weights of so many ties that these rows make with these numbers, fractions."""
    low, tops = in_integers(numbers)
    found = [0] * many
    for row, top in zip(rows, tops):
        for tie in row:
            found[tie] += top
    return tuple([cut(top, low) for top in found])


def apart(difference):
    """(costs, others): two costs, the others above the first ones by this difference."""
    return (ONE,) * len(difference), tuple([(1 + one, 1) for one in difference])


def levelled(difference, little, shown, much):
    """What is left of a difference so that it does not count any more where it counts little, and the shown one much.

    It is made of both and it hides what both hide.
    """
    if little == 0:
        return difference if much > 0 else [-one for one in difference]
    left = [much * one - little * other for one, other in zip(difference, shown)]
    # Cut at each step: uncut, the numbers would grow with each row more.
    divisor = 0
    for one in left:
        divisor = gcd(divisor, one)
    return [one // divisor for one in left] if divisor > 1 else left


class Sight:
    """What rows, each by some name, show of the costs of so many ties.

    hidden: as few differences as can be that all rows hide, and of which all others are made that they hide.
    taken: (name, row, difference) for each row that shows a difference which all rows ahead of it hide, with one
    such: rows that are not taken are made by those ahead of them.
    """

    def __init__(self, many):
        self.taken = []
        self.hidden = [[1 if tie == other else 0 for other in range(many)] for tie in range(many)]

    def look(self, name, row):
        """Looks along one row more."""
        found = [sum([one[tie] for tie in row]) for one in self.hidden]
        if not any(found):
            return
        at = 0
        while found[at] == 0:
            at += 1
        shown, much = self.hidden[at], found[at]
        self.taken.append((name, row, shown))
        rest = list(zip(self.hidden, found))
        del rest[at]
        self.hidden = [levelled(one, little, shown, much) for one, little in rest]

    def hides(self, difference):
        """Whether all rows hide the difference."""
        return all([sum_along(row, difference) == 0 for _, row, _ in self.taken])

    def unseen(self, weights):
        """A hidden difference whose worth by the weights is not 0. None if there is none: then rows make them."""
        _, tops = in_integers(weights)
        for difference in self.hidden:
            if worth_of(tops, difference) != 0:
                return difference
        return None

    def making(self, weights):
        """The tuple of (name, number) for each row that is needed to make the weights, in the sequence of the rows."""
        low, left = in_integers(weights)
        found = []
        # All rows ahead of a taken one hide its difference, so it alone brings what the weights still have of it.
        for name, row, difference in reversed(self.taken):
            wanted = worth_of(left, difference)
            if wanted != 0:
                much = sum_along(row, difference)
                times = abs(much) // gcd(wanted, much)
                low, left = low * times, [one * times for one in left]
                number = wanted * times // much
                for tie in row:
                    left[tie] -= number
                found.append((name, cut(number, low)))
        return tuple(found[::-1])

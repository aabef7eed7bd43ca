"""What sums along rows of ties show of costs, and which weights rows make.

A row is a tuple of numbers of ties. A difference is a list of integers, one for each tie: what some costs are above
others. A row hides a difference that comes to 0 along it.
"""

from math import gcd

from tiesums.fractions import ONE, fraction, total

ZERO = (0, 1)
MINUS_ONE = (-1, 1)


def _sum_along(row, difference):
    return sum([difference[number] for number in row])


def _worth(weights, difference):
    return total(tuple(weights), tuple([(one, 1) for one in difference]))


def _levelled(row, difference, shown):
    # So many times the one less so many times the other that the row hides what is left.
    much, little = _sum_along(row, shown), _sum_along(row, difference)
    left = [much * one - little * other for one, other in zip(difference, shown)]
    # Cut at each step: uncut, the numbers would grow with each row more.
    divisor = 0
    for one in left:
        divisor = gcd(divisor, one)
    return [one // divisor for one in left]


def apart(difference):
    """(costs, others): two costs, the others above the first ones by this difference."""
    return (ONE,) * len(difference), tuple([(1 + one, 1) for one in difference])


class Sight:
    """What rows show of the costs of so many ties.

    hidden: as few differences as can be that all rows hide, and of which all others are made that they hide.
    taken: (at, difference) for each row that shows a difference which all rows ahead of it hide, with one such:
    rows that are not taken are made by those ahead of them.
    """

    def __init__(self, rows, many):
        self.rows = rows
        self.taken = []
        self.hidden = [[1 if tie == other else 0 for other in range(many)] for tie in range(many)]
        for at, row in enumerate(rows):
            self._look(at, row)

    def _look(self, at, row):
        shown = [one for one in self.hidden if _sum_along(row, one) != 0]
        if len(shown) > 0:
            first = shown[0]
            self.taken.append((at, first))
            self.hidden = [_levelled(row, one, first) for one in self.hidden if one != first]

    def unseen(self, weights):
        """A hidden difference whose worth is not 0. None if there is none: then the rows make the weights."""
        for difference in self.hidden:
            if _worth(weights, difference) != ZERO:
                return difference
        return None

    def making(self, weights):
        """(at, number) for each row that is needed to make these weights, in the sequence of the rows."""
        left = list(weights)
        found = []
        # All rows ahead of a taken one hide its difference, so it alone brings what the weights still have of it.
        for at, difference in reversed(self.taken):
            top, low = _worth(left, difference)
            number = fraction(top, low * _sum_along(self.rows[at], difference))
            for tie in self.rows[at]:
                left[tie] = total((left[tie], number), (ONE, MINUS_ONE))
            if number != ZERO:
                found.append((at, number))
        return found[::-1]

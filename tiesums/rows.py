"""What sums along rows of ties show of costs, and which weights rows make.

A row is a tuple of numbers of ties. A difference is a list of integers, one for each tie: what some costs are above
others. A row hides a difference that comes to 0 along it.
"""

from math import gcd, lcm

from tiesums.fractions import ONE, cut

ZERO = (0, 1)
MINUS_ONE = (-1, 1)


def in_integers(fractions):
    """(low, tops): these fractions are the tops, each divided by low."""
    low = 1
    for _, under in fractions:
        low = lcm(low, under)
    return low, [top * (low // under) for top, under in fractions]


def sum_along(row, difference):
    """What the difference comes to along the row."""
    return sum([difference[tie] for tie in row])


def worth_of(tops, difference):
    """What the difference comes to if each tie counts as often as the tops tell."""
    return sum([top * one for top, one in zip(tops, difference)])


def made(rows, numbers, many):
    """The weights of so many ties that these rows make with these numbers, fractions."""
    low, tops = in_integers(numbers)
    found = [0] * many
    for row, top in zip(rows, tops):
        for tie in row:
            found[tie] += top
    return tuple([cut(top, low) for top in found])


def counted(row, many):
    """The weights of so many ties that this row makes by itself."""
    return tuple([ONE if tie in row else ZERO for tie in range(many)])


def apart(difference):
    """(costs, others): two costs, the others above the first ones by this difference."""
    return (ONE,) * len(difference), tuple([(1 + one, 1) for one in difference])


def difference_of(costs, others):
    """What the others are above the costs, times some integer above 0."""
    _, tops = in_integers((*costs, *others))
    return [other - one for one, other in zip(tops, tops[len(costs):])]


def levelled(difference, little, shown, much):
    """What is left of a difference so that it does not count any more where it counts little, and the shown one much.

    It is made of both and it hides what both hide.
    """
    if little == 0:
        return difference if much > 0 else [-one for one in difference]
    left = [much * one - little * other for one, other in zip(difference, shown)]
    # Cut at each step: uncut, the numbers would grow with each row more.
    divisor = 0
    for one in left:
        divisor = gcd(divisor, one)
        if divisor == 1:
            return left
    return [one // divisor for one in left] if divisor > 1 else left


def first_of(found):
    """Where the first number stands that is not 0."""
    at = 0
    while found[at] == 0:
        at += 1
    return at


def cleared(some, found):
    """What is left of some differences, without the first one that counts, so that none counts any more.

    found: what each of them counts.
    """
    at = first_of(found)
    shown, much = some[at], found[at]
    rest = [(one, little) for other, (one, little) in enumerate(zip(some, found)) if other != at]
    return [levelled(one, little, shown, much) for one, little in rest]


class Sight:
    """What rows, each by some name, show of the costs of so many ties.

    hidden: as few differences as can be that all rows hide, and of which all others are made that they hide.
    taken: (name, row, difference) for each row that shows a difference which all rows ahead of it hide, with one
    such: rows that are not taken are made by those ahead of them.
    """

    def __init__(self, many):
        self.taken = []
        self.hidden = [[0] * tie + [1] + [0] * (many - tie - 1) for tie in range(many)]

    def copy(self):
        """Another one, alike, that looks on by itself."""
        other = Sight(0)
        other.taken, other.hidden = list(self.taken), self.hidden
        return other

    def look(self, name, row):
        """Looks along one row more, and tells whether it is taken."""
        found = [sum([one[tie] for tie in row]) for one in self.hidden]
        if not any(found):
            return False
        self.taken.append((name, row, self.hidden[first_of(found)]))
        self.hidden = cleared(self.hidden, found)
        return True

    def hides(self, difference):
        """Whether all rows hide the difference."""
        return all([sum_along(row, difference) == 0 for _, row, _ in self.taken])

    def unseen(self, weights):
        """A hidden difference whose worth by the weights is not 0. None if there is none: then rows make them."""
        if len(self.hidden) == 0:
            return None
        _, tops = in_integers(weights)
        for difference in self.hidden:
            if worth_of(tops, difference) != 0:
                return difference
        return None

    def making(self, weights):
        """The tuple of (name, number) for each row that is needed to make the weights, in the sequence of the rows."""
        low, tops = in_integers(weights)
        left = {tie: top for tie, top in enumerate(tops) if top != 0}
        found = []
        # All rows ahead of a taken one hide its difference, so it alone brings what the weights still have of it.
        for name, row, difference in reversed(self.taken):
            wanted = sum([top * difference[tie] for tie, top in left.items()])
            if wanted != 0:
                much = sum_along(row, difference)
                times = abs(much) // gcd(wanted, much)
                if times > 1:
                    low, left = low * times, {tie: top * times for tie, top in left.items()}
                number = wanted * times // much
                for tie in row:
                    left[tie] = left.get(tie, 0) - number
                found.append((name, cut(number, low)))
        return tuple(found[::-1])

    def alone(self):
        """(name, difference, much) for each taken row, in their sequence.

        Of all of them it alone shows the difference, which comes to much along it.
        """
        found = []
        # All rows ahead of a taken one hide its difference; what those behind it see of it is taken away.
        for name, row, difference in reversed(self.taken):
            for _, other, shown, much in found:
                difference = levelled(difference, sum_along(other, difference), shown, much)
            found.append((name, row, difference, sum_along(row, difference)))
        return [(name, difference, much) for name, _, difference, much in reversed(found)]


class Maker:
    """Tells how the rows that a sight of so many ties took make other rows. It pays if many are asked."""

    def __init__(self, sight, many):
        shown = sight.alone()
        self.names = [name for name, _, _ in shown]
        self.low = 1
        for _, _, much in shown:
            self.low = lcm(self.low, much)
        # How often a row needs each of the taken ones, as it goes along this tie, if the low-th part counts as 1.
        self.tops = [[difference[tie] * (self.low // much) for _, difference, much in shown] for tie in range(many)]
        self.numbers = {}

    def making(self, row):
        """What making of the sight tells of the weights that this row makes by itself."""
        some = [self.tops[tie] for tie in row]
        found = [sum(tops) for tops in zip(*some)]
        return tuple([(name, self._number(top)) for name, top in zip(self.names, found) if top != 0])

    def _number(self, top):
        # The same few numbers come again and again.
        if top not in self.numbers:
            self.numbers[top] = cut(top, self.low)
        return self.numbers[top]

"""The examples at the ends of points 5 to 15, word for word."""

import doctest
import unittest

# That of point 5 makes the nets of which the others speak.
NETS = """
>>> from tiesums.fractions import fraction, total
>>> from tiesums.nets import Net
>>> star = Net('places a b c m\\nwatchers a b c\\ntie a m\\ntie b m\\ntie c m')
>>> house = Net('places a b c p\\nwatchers a b c\\ntie a b\\ntie b c\\ntie a c\\ntie a p\\ntie b p')
>>> [star.ties[0], star.tied('m'), len(house), ('p', 'a') in house, house.with_watcher('p').watchers, fraction(6, -4), total(((1, 2), (1, 3)), ((1, 1), (-3, 1)))]
[('a', 'm'), ('a', 'b', 'c'), 5, False, ('a', 'b', 'c', 'p'), (-3, 2), (-1, 2)]
"""

WAYS = """
>>> from tiesums.ways import along, sums, ways
>>> [ways(star), along(house, ('a', 'p', 'b', 'c')), len(ways(house)), sums(star, ((1, 1), (1, 2), (-1, 3)))]
[(('a', 'm', 'b'), ('a', 'm', 'c'), ('b', 'm', 'c')), (1, 3, 4), 9, ((3, 2), (2, 3), (1, 6))]
"""

TOLD = """
>>> from tiesums.told import base, shows_tie_told, sure_ties, tie_told, told, whole
>>> tie_told(star, ('a', 'm'))
('told', ((('a', 'm', 'b'), (1, 2)), (('a', 'm', 'c'), (1, 2)), (('b', 'm', 'c'), (-1, 2))))
>>> [sure_ties(house), tie_told(house, ('a', 'p'))[0], whole(star)[0], whole(house)[0], len(base(house))]
[(0, 1, 2), 'alike', 'all', 'not', 4]
>>> cheap, dear = ((1, 1),) * 5, ((1, 1), (1, 1), (1, 1), (2, 1), (0, 1))
>>> [shows_tie_told(house, ('a', 'p'), ('alike', cheap, dear)), told(house, ((0, 1), (0, 1), (0, 1), (2, 1), (2, 1)))[0]]
[True, 'told']
"""

BLIND = """
>>> from tiesums.blind import bent, blind, edge, parts, shows_bent
>>> [blind(house), edge(house, ('p',)), blind(star), ('m',) in parts(star), len(parts(star)), shows_bent(house, ('p',), (cheap, dear))]
[('blind', ('p',), ('a', 'b')), ('a', 'b'), ('none',), False, 10, True]
"""

PLACING = """
>>> from tiesums.placing import gains, least
>>> [len(least(house)[0]), len(least(house)[1]), gains(house)]
[3, 6, (('p', (0, 1, 2, 3, 4)),)]
"""

FAILING = """
>>> from tiesums.failing import blame, groups, verdict
>>> [groups(star), groups(house), blame(star, ways(star)[:2], 1), verdict(star, ways(star), 2)]
[((0,), (1,), (2,)), ((0,), (1,), (2,), (3, 4)), ((0,),), ((), (0, 1, 2), ())]
"""

READINGS = """
>>> from tiesums.readings import fitting, mended, next_way, reckoned
>>> read = tuple(zip(ways(star), (5, 6, 7)))
>>> [reckoned(star, read, ((1, 1), (0, 1), (0, 1))), fitting(star, read), reckoned(star, read[:2], ((0, 1), (1, 1), (-1, 1)))[:2]]
[('sure', (2, 1), ((1, 2), (1, 2), (-1, 2))), ('costs', ((2, 1), (3, 1), (4, 1))), ('sure', (-1, 1))]
>>> twice = read + ((ways(star)[0], 6),)
>>> [fitting(star, twice)[0], mended(star, twice)[0], next_way(star, read[:2], ((1, 1), (0, 1), (0, 1)))]
['torn', (0,), ('way', ('b', 'm', 'c'))]
"""

CHOOSING = """
>>> from tiesums.beside import alike, within
>>> from tiesums.choosing import cheapest
>>> fewer = house.without_watcher('c')
>>> [within(house, fewer)[0], within(fewer, house)[0], alike(house, fewer)[:2], len(within(house, fewer)[1])]
['within', 'parts', ('parts', 1), 3]
>>> found = cheapest(house, (('tie', 'c', 'p', 2), ('watch', 'p', 3)), (3, 4))
>>> [found[:3], len(found[3]), [row[0] for row in found[4]]]
[('choice', 2, (('tie', 'c', 'p', 2),)), 2, [()]]
"""

SURVEYS = """
>>> from tiesums.surveys import Survey
>>> survey = Survey(star)
>>> [survey.read(('a', 'm', 'b'), 5), survey.read(('a', 'm', 'c'), 6), survey.sure(), survey.next(((1, 1), (0, 1), (0, 1)))]
[None, None, (), ('way', ('b', 'm', 'c'))]
>>> [survey.watch('m'), survey.read(('a', 'm'), 2), survey.sure(), len(survey), survey.cost(((1, 1), (1, 1), (1, 1)))[:2]]
[None, None, ((0, (2, 1)), (1, (3, 1)), (2, (4, 1))), 3, ('sure', (9, 1))]
"""

DESKS = """
>>> from tiesums.desk import Desk
>>> from tiesums.journals import journal
>>> desk = Desk(journal(survey))
>>> [desk.say(line) for line in ('cost b m', 'sure', 'told', 'undo', 'cost b m', 'watchers', 'read -1 a m')]
['3/1', '0=2/1 1=3/1 2=4/1', '0 1 2', 'ok', 'open', 'a b c m', 'ok']
>>> journal(desk.survey).split('\\n')[5:]
['survey', 'read 5 a m b', 'read 6 a m c', 'watch m', 'read -1 a m']
"""


class Examples(unittest.TestCase):

    def check_examples(self, *texts):
        # Some use what those ahead of them have named.
        test = doctest.DocTestParser().get_doctest("".join(texts), {}, "examples", None, 0)
        results = doctest.DocTestRunner(verbose=False).run(test)
        self.assertEqual((results.failed, results.attempted), (0, "".join(texts).count(">>> ")))

    def test_point_5(self):
        self.check_examples(NETS)

    def test_point_6(self):
        self.check_examples(NETS, WAYS)

    def test_point_7(self):
        self.check_examples(NETS, TOLD)

    def test_point_8(self):
        self.check_examples(NETS, TOLD, BLIND)

    def test_point_9(self):
        self.check_examples(NETS, PLACING)

    def test_point_10(self):
        self.check_examples(NETS, WAYS, FAILING)

    def test_point_11(self):
        self.check_examples(NETS, WAYS, READINGS)

    def test_point_13(self):
        self.check_examples(NETS, CHOOSING)

    def test_point_14(self):
        self.check_examples(NETS, SURVEYS)

    def test_point_15(self):
        self.check_examples(NETS, SURVEYS, DESKS)

    def test_all_one_behind_the_other(self):
        self.check_examples(NETS, WAYS, TOLD, BLIND, PLACING, FAILING, READINGS, CHOOSING, SURVEYS, DESKS)


if __name__ == "__main__":
    unittest.main()

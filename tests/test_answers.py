"""Where any of several results is right: it is the one that the package has always told, however it is asked."""

import hashlib
import itertools
import random
import unittest

from plain import all_nets, costs_of, dependences, drawn_net, drawn_nets, joined, net_of, rank, unit
from samples import NETS, Checks, any_values, raised
from tiesums.beside import alike, shows_within, within
from tiesums.choosing import cheapest
from tiesums.errors import BadWay, TieError
from tiesums.failing import blame, groups, verdict
from tiesums.nets import Net
from tiesums.readings import fitting, mended, next_way, reckoned
from tiesums.surveys import Survey
from tiesums.told import base, shows_base, shows_whole, sure_ties, whole
from tiesums.ways import along, surely_hidden, ways

EIGHT = "abcdefgh"
TIES = "eh dh df bh fh gh ad cd bc cf bf ag ae de"
GREAT = [net_of(EIGHT, watchers, [tuple(sorted(tie)) for tie in TIES.split()]) for watchers in (EIGHT, "cfg", "ac")]

# Of the answers that the package gave before it was made faster.
DIGESTS = {
    ("beside", "three places"): "aec01cca293843731a0b45ca0557937a5f9b9cee9022c391f2c501be325d47c3",
    ("beside", "four places"): "f03da0d7cb2272877d019bc12fde5c99f66a11750f9f118d774dfc472f33e759",
    ("beside", "samples"): "4f015179853af77408b37da725258f0990ab042cdad6f96670063dddac5f2380",
    ("failed", "three places"): "3949ebe91882949240948914f58bf37e2f861564c10407f6b2eda5b04c8c40cb",
    ("failed", "four places"): "1104c964f6e19b06d408232b5160589c8442085e8e795e6c5be361e2317799ee",
    ("failed", "samples"): "9933878ca0b36b5556adc45fae523893813fc6c6fe2cb56b72ae5a0a2cb13f1b",
    ("readings", "three places"): "9a1e187637b3fe697e47706c7792b29999178096efcd0e32e95b4a0922fa49ad",
    ("readings", "four places"): "dd947d425e27689a0363039a0852ff1f60a129dc182b8d5fe3fdee82f7772df1",
    ("readings", "samples"): "6f930162625b85ea3bf611eb954e84da557d456fd761dfdc89f72b2996b93e3d",
    ("survey", "three places"): "3078e4854b27206c8c32d924e5c9fe921397053af86554d091e33d98612c206c",
    ("survey", "four places"): "5c156ffca2959b16e2b85a8d4225be2ecf729eb24a8bec08731d4b013f0ec508",
    ("survey", "samples"): "88d3a4435025c61be8304a5e7f6c97b55a29f5bfb46397d0dd59bf7aa9e55e06",
    ("choices", "three places"): "24667bb7654578c37cbfd0e0d132eef173c38b95782aaa2c5ff388d44ed13171",
    ("choices", "four places"): "2f9a9ed4820f1ff85f368542aa76e40ce6aa81fd72b612cab411fed43503964f",
    ("choices", "samples"): "e23b98d45f023d786e6352f9b4eefc65396777e6cd6580bc31fa31a1aeff884a",
}


def told(call, *args):
    try:
        return call(*args)
    except TieError as why:
        return (type(why).__name__, why.value)


def changed_nets(net):
    """Nets with the same ties and other watchers."""
    found = [net_of(net.places, some, net.ties) for some in (net.places, net.places[:2], net.places[1:], net.places[::2])
             if len(some) > 1]
    return found + [net.with_watcher(place) for place in net.places if place not in net.watchers]


def of_nets_beside(net):
    return [told(call, *some) for other in changed_nets(net) for some in ((net, other), (other, net))
            for call in (within, alike)]


def of_failed_ways(net):
    found = [groups(net)]
    for numbers in [(), *itertools.combinations(range(len(net)), 1), *list(itertools.combinations(range(len(net)), 2))[::7]]:
        failed = tuple(way for way in ways(net) if set(along(net, way)) & set(numbers))
        for most in range(4):
            found += [blame(net, failed, most), told(verdict, net, failed, most)]
    return found


def some_readings(net, draw):
    """Readings of drawn costs, more and more of them changed."""
    costs = [draw.randint(-9, 9) for _ in net.ties]
    found = [()]
    for many in (1, 2, 4, 7, 10, 10, 10):
        pool = [draw.choice(ways(net)) for _ in range(draw.randint(1, 10))]
        some = [draw.choice(pool) for _ in range(many)]
        wrong = draw.choice([0, 0, 1, 3, many])
        found.append(tuple((way, sum(costs[tie] for tie in along(net, way)) + (draw.randint(-2, 2) if at < wrong else 0))
                           for at, way in enumerate(some)))
    return found


def of_readings(net):
    draw = random.Random(net.text)
    found = []
    for readings in some_readings(net, draw) if ways(net) else [()]:
        found += [fitting(net, readings), mended(net, readings)]
        weights = [unit(net, number) for number in range(len(net))] + [costs_of(*[draw.randint(-3, 3) for _ in net.ties])]
        found += [told(call, net, readings, one) for one in weights for call in (reckoned, next_way)]
    return found


def of_a_survey(net):
    draw = random.Random(net.text)
    survey, found = Survey(net), []
    for way, amount in [reading for readings in some_readings(net, draw) for reading in readings] if ways(net) else []:
        found.append(told(survey.read, way, amount))
        kind = draw.choice(["undo", "redo", "watch", "trial", "", ""])
        if kind == "trial":
            with survey.trial():
                found += [told(survey.read, way, amount + 1), told(survey.undo), survey.sure()]
        elif kind == "watch":
            found.append(told(survey.watch, draw.choice(net.places)))
        elif kind:
            found.append(told(getattr(survey, kind)))
        weights = unit(net, draw.randrange(len(net)))
        found += [survey.sure(), survey.cost(weights), survey.next(weights), survey.readings]
    return found


def of_choices(net):
    draw = random.Random(net.text)
    pool = [("tie", *pair, draw.randint(1, 9)) for pair in itertools.combinations(net.places, 2) if pair not in net]
    pool += [("watch", place, draw.randint(1, 9)) for place in net.places if place not in net.watchers]
    found = []
    for many in range(1, min(len(pool), 4) + 1):
        offers = tuple(sorted(draw.sample(pool, many)))
        found += [cheapest(net, offers, (number,)) for number in range(len(net))]
        found.append(cheapest(net, offers, tuple(range(len(net)))))
    return found


KINDS = {"beside": of_nets_beside, "failed": of_failed_ways, "readings": of_readings, "survey": of_a_survey,
         "choices": of_choices}
NETS_BY_NAME = {
    "three places": lambda: all_nets(3),
    "four places": lambda: itertools.islice(all_nets(4), 0, None, 29),
    "samples": lambda: [*NETS, *GREAT],
}


def digest(kind, name):
    nets = [Net(net.text) for net in NETS_BY_NAME[name]()]
    return hashlib.sha256(repr([KINDS[kind](net) for net in nets]).encode()).hexdigest()


class AnswersStay(unittest.TestCase):

    def test_digests(self):
        for (kind, name), wanted in DIGESTS.items():
            self.assertEqual(digest(kind, name), wanted, f"{kind}, {name}")

    def test_there_are_all(self):
        self.assertEqual(sorted(DIGESTS), sorted(itertools.product(KINDS, NETS_BY_NAME)))


class AskedInAnySequence(Checks):

    def values(self, net):
        """Ways of the net, and others."""
        found = [one for pair in itertools.permutations(net.places, 2) for one in (pair, pair[:1], pair[::-1] + pair[:1])]
        for way in ways(net)[::3]:
            found += [way, way[::-1], way[1:], way[:-1], way + way[:1], way[:1] * 2, list(way), "".join(way), (way,)]
        return found + any_values()

    def test_ways_ahead_of_all_ways_and_behind_them(self):
        for net in [*NETS, *drawn_nets("ahead", 15, most=6)]:
            known = Net(net.text)
            ways(known)
            for value in self.values(known):
                fresh = Net(net.text)
                if value in ways(known) and isinstance(value, tuple):
                    self.check(along(fresh, value), along(known, value))
                else:
                    self.check(raised(BadWay, along, fresh, value), value)
                    self.check(raised(BadWay, along, known, value), value)

    def test_a_survey_at_each_step(self):
        draw = random.Random("steps")
        for net in [NETS[0], NETS[1], *GREAT, *[net for net in drawn_nets("steps", 12, least=4) if ways(net)]]:
            survey = Survey(net)
            for way, amount in [reading for readings in some_readings(net, draw) for reading in readings]:
                told(survey.read, way, amount)
                if draw.random() < 0.3:
                    told(survey.watch, draw.choice(net.places))
                if draw.random() < 0.4:
                    told(draw.choice([survey.undo, survey.redo]))
                if draw.random() < 0.2:
                    survey = survey.copy()
                with survey.trial():
                    told(survey.watch, draw.choice(net.places))
                    told(survey.read, draw.choice(ways(survey.net)), draw.randint(-9, 9))
                    self.check_step(survey, draw)
                self.check_step(survey, draw)

    def check_step(self, survey, draw):
        fresh = Net(survey.net.text)
        for number in draw.choices(range(len(fresh)), k=3):
            weights = unit(fresh, number)
            self.check(survey.next(weights), next_way(fresh, survey.readings, weights))
            self.check(survey.cost(weights), reckoned(fresh, survey.readings, weights))
            self.assertEqual((number, survey.cost(weights)[1]) in survey.sure(), survey.cost(weights)[0] == "sure")


def gone_rows(net):
    """For each way a row with 1 for each of its ties, otherwise 0: gone place by place, plainly."""
    found, paths = [], [[place] for place in net.watchers]
    while paths:
        path = paths.pop()
        if path[-1] in net.watchers and net.places.index(path[-1]) > net.places.index(path[0]):
            steps = [{one, other} for one, other in zip(path, path[1:])]
            found.append([1 if set(tie) in steps else 0 for tie in net.ties])
        paths += [path + [place] for place in net.places if place not in path
                  and ((path[-1], place) in net.ties or (place, path[-1]) in net.ties)]
    return found


class Stops(Checks):
    """Ways are gone only until no more is hidden than surely is, by blind parts: no way behind shows more."""

    def check_all_is_seen(self, net):
        """And how much more is hidden than surely is."""
        rows = gone_rows(net)
        many = rank(rows)
        self.assertEqual(len(base(net)), many, net.text)
        self.check_right(shows_base, net, base(net))
        sure = tuple(tie for tie in range(len(net)) if rank([*rows, [int(tie == at) for at in range(len(net))]]) == many)
        self.check(sure_ties(net), sure)
        self.check(sure_ties(Net(net.text)), sure)
        self.assertEqual(surely_hidden(net) == 0, len(net) == many, net.text)
        return len(net) - many - surely_hidden(net)

    def check_it_stops(self, net):
        self.assertEqual(self.check_all_is_seen(net), 0, net.text)

    def test_small_nets(self):
        for net in [*all_nets(3), *itertools.islice(all_nets(4), 0, None, 5), *itertools.islice(all_nets(5), 0, None, 97)]:
            self.check_it_stops(net)

    def test_great_nets(self):
        draw = random.Random("stops")
        for _ in range(150):
            size = draw.randint(6, 8)
            self.check_all_is_seen(drawn_net(draw, size, draw.randint(size, 14), draw.randint(2, size)))

    def test_long_blind_rows(self):
        # Beside much of which all is told: rows of places in which nobody watches, rings, ends, and what stands alone.
        for ties in ("ab bc ac ad bd cd de ef fg ag", "ab bc ac ad bd cd de ef df", "ab bc ac ad bd cd de ef eg",
                     "ab bc ac ad bd cd ef fg eg", "ab bc ac ad bd cd de ae df bf ef", "ab bc ac ad bd cd de ef fg gd",
                     "ab bc ac ad bd cd ae be ef ag bg", "ab bc ac ad bd cd ce cf ef de df",
                     "ab bc ac ad bd cd de be ef bf fg eg"):
            ties = [tuple(sorted(tie)) for tie in ties.split()]
            for watchers in ("abcd", "abc", "abd", "abcdf", "abcdg", "ac", "ab"):
                self.check_it_stops(net_of("abcdefg", watchers, ties))

    def test_more_is_hidden_than_surely_is(self):
        # Here ways are gone to the last one.
        for places, watchers, ties in (
                ("c za m x y d", "m y", "c-m m-y c-za c-d x-y x-d za-x m-d za-y"),
                ("za m y x b d c aa", "m x", "y-b m-d y-c x-aa x-b za-b za-y d-aa y-aa b-aa d-c m-c za-x m-x"),
                ("b x y za d aa c m", "b x m", "aa-c za-d x-za y-c x-m za-c b-x x-d y-aa b-c b-aa y-d")):
            pairs = [sorted(tie.split("-"), key=places.split().index) for tie in ties.split()]
            self.assertEqual(self.check_all_is_seen(net_of(places.split(), watchers.split(), pairs)), 1)


class Lows(Checks):
    """Rows whose numbers have many different lows are looked at in another way than others."""

    def check_rows(self, net, rows, shows, *args):
        """That rows are right with all lows at once, and wrong if one of their numbers is another one."""
        nothing = dependences(net)
        for many in (1, 5, 6, 7, 8, 20):
            times = [(1, low) for low in range(2, many + 2)]
            changed = tuple(joined(row, self.scaled(nothing[at % len(nothing)], times[at % many]))
                            for at, row in enumerate(rows))
            self.check_right(shows, *args, changed)
            for at in range(0, len(rows), max(1, len(rows) // 7)):
                for row in (changed[at][1:], changed[at][::-1], self.other(changed[at], -1), self.other(changed[at], 0), ()):
                    self.check_wrong(shows, *args, changed[:at] + (row,) + changed[at + 1:])

    def scaled(self, numbers, times):
        return {way: number * times[0] / times[1] for way, number in numbers.items()}

    def other(self, row, at):
        way, (top, low) = row[at]
        changed = list(row)
        changed[at] = (way, (top + low, low))
        return tuple(changed)

    def test_whole(self):
        for net in (NETS[5], GREAT[1]):
            self.check_rows(net, whole(net)[1], lambda net, rows: shows_whole(net, ("all", rows)), net)

    def test_within(self):
        def shows(one, other, rows):
            return shows_within(one, other, ("within", rows))
        for one, other in ((GREAT[1], net_of(EIGHT, "cdfg", GREAT[1].ties)), (NETS[5], NETS[5].without_watcher("p"))):
            self.check_rows(one, within(one, other)[1], shows, one, other)


if __name__ == "__main__":
    unittest.main()

"""Point 5, and what point 2 says of names and lots: the texts of nets and what nets tell."""

import doctest
import itertools
import unittest

from samples import HOUSE, STAR, any_values, raised, same
from tiesums.errors import BadNet
from tiesums.nets import Net

EXAMPLE = """
>>> from tiesums.fractions import fraction, total
>>> from tiesums.nets import Net
>>> star = Net('places a b c m\\nwatchers a b c\\ntie a m\\ntie b m\\ntie c m')
>>> house = Net('places a b c p\\nwatchers a b c\\ntie a b\\ntie b c\\ntie a c\\ntie a p\\ntie b p')
>>> [star.ties[0], star.tied('m'), len(house), ('p', 'a') in house, house.with_watcher('p').watchers, fraction(6, -4), total(((1, 2), (1, 3)), ((1, 1), (-3, 1)))]
[('a', 'm'), ('a', 'b', 'c'), 5, False, ('a', 'b', 'c', 'p'), (-3, 2), (-1, 2)]
"""

EIGHT = tuple("abcdefgh")
PAIRS = tuple(itertools.combinations(EIGHT, 2))


def text_of(places, watchers, ties):
    rows = [["places", *places], ["watchers", *watchers]] + [["tie", *tie] for tie in ties]
    return "\n".join([" ".join(row) for row in rows])


class Example(unittest.TestCase):

    def test_word_for_word(self):
        test = doctest.DocTestParser().get_doctest(EXAMPLE, {}, "point 5", None, 0)
        results = doctest.DocTestRunner(verbose=False).run(test)
        self.assertEqual(tuple(results), (0, 4 + 1))


class Checks(unittest.TestCase):

    def check(self, got, wanted):
        self.assertTrue(same(got, wanted), f"{got!r} instead of {wanted!r}")

    def check_net(self, net, text):
        """That the net is in all things the one of this text."""
        rows = [tuple(line.split(" ")[1:]) for line in text.split("\n")]
        self.assertIs(type(net), Net)
        self.check(net.text, text)
        self.check(net.places, rows[0])
        self.check(net.watchers, rows[1])
        self.check(net.ties, tuple(rows[2:]))
        self.check(len(net), len(rows) - 2)
        self.assertEqual(net, Net(text))

    def refused(self, text, number):
        got = raised(BadNet, Net, text)
        self.assertTrue(same(got, number), f"{got!r} instead of {number!r} for {text!r}")


class Texts(Checks):

    def test_ordinary_ones(self):
        self.check_net(Net(STAR), STAR)
        self.check_net(Net(HOUSE), HOUSE)
        self.check_net(Net(text=HOUSE), HOUSE)

    def test_sequence_is_that_of_the_text(self):
        text = "places q b z a\nwatchers q z a\ntie z a\ntie q a\ntie b z\ntie q b"
        self.check_net(Net(text), text)

    def test_places_need_no_ties_and_ties_no_watchers(self):
        text = "places a b c d e\nwatchers a b\ntie d e"
        self.check_net(Net(text), text)

    def test_how_many_places(self):
        names = tuple("abcdefghij")
        for many in range(11):
            text = text_of(names[:many], ("a", "b"), [("a", "b")])
            if 3 <= many <= 8:
                self.check_net(Net(text), text)
            else:
                self.refused(text, 1)
        self.refused("places\nwatchers a b\ntie a b", 1)

    def test_how_many_watchers(self):
        for many in range(9):
            text = text_of(EIGHT, EIGHT[:many], [("a", "b")])
            if many >= 2:
                self.check_net(Net(text), text)
            else:
                self.refused(text, 2)
        text = text_of("abc", "abc", [("a", "b")])
        self.check_net(Net(text), text)
        self.refused("places a b c\nwatchers a b c d\ntie a b", 2)

    def test_how_many_ties(self):
        for many in range(1, 15):
            text = text_of(EIGHT, ("a", "h"), PAIRS[:many])
            self.check_net(Net(text), text)
        for many in (15, 16, 20, 28):
            self.refused(text_of(EIGHT, ("a", "h"), PAIRS[:many]), 17)
        self.refused("places a b c\nwatchers a b", 3)

    def test_a_wrong_line_behind_fourteen_ties(self):
        full = text_of(EIGHT, ("a", "h"), PAIRS[:14])
        for line in ("", "tie", "tie a b", "tie x y", "tie g h", "places a b c"):
            self.refused(full + "\n" + line, 17)

    def test_names(self):
        for name in ("x", "xy", "abcdefgh", "zzzzzzzz", "places", "watchers", "tie"):
            text = text_of(("a", "b", name), ("a", name), [("a", name), ("b", name)])
            self.check_net(Net(text), text)
        for name in ("", "abcdefghi", "zzzzzzzzz", "X", "aB", "Ab", "x1", "1", "a_b", "a-b", "a.b", "a'", "`", "{", "@", "["):
            self.refused(text_of(("a", "b", name), ("a", "b"), [("a", "b")]), 1)
            self.refused(text_of((name, "b", "c"), ("b", "c"), [("b", "c")]), 1)
            self.refused(text_of(("a", "b", "c", name), ("a", "b"), [("a", "b")]), 1)

    def test_all_letters(self):
        for letters in ("abcdefgh", "ijklmnop", "qrstuvwx", "yz"):
            names = (letters, *(letter * 2 for letter in letters))[:8]
            text = text_of(names, names[:2], [(names[0], names[2])])
            self.check_net(Net(text), text)

    def test_a_name_twice(self):
        self.refused("places a b a\nwatchers a b\ntie a b", 1)
        self.refused("places a a b c\nwatchers a b\ntie a b", 1)
        self.refused("places a b c d c\nwatchers a b\ntie a b", 1)

    def test_watchers(self):
        for line in ("watchers b a", "watchers a c b", "watchers c a b", "watchers a a", "watchers a b b",
                     "watchers a b a", "watchers a x", "watchers x y", "watchers a b x", "watchers", "watchers a",
                     "watchers A B", "watchers a,b"):
            self.refused(f"places a b c\n{line}\ntie a b", 2)

    def test_ties(self):
        for line in ("tie b a", "tie c a", "tie a a", "tie c c", "tie a x", "tie x a", "tie x y", "tie", "tie a",
                     "tie a b c", "tie A B", "tie a-b", "tie a b a", "tie  a b", "tie a b ", "tie a  b", " tie a b"):
            self.refused(f"places a b c\nwatchers a b\n{line}", 3)
            self.refused(f"places a b c\nwatchers a b\n{line}\ntie a c", 3)
            self.refused(f"places a b c\nwatchers a b\ntie a c\n{line}", 4)
            self.refused(f"places a b c\nwatchers a b\ntie a c\n{line}\ntie b c", 4)

    def test_sequence_counts_and_not_letters(self):
        self.refused("places b a c\nwatchers b a\ntie a b", 3)
        self.refused("places b a c\nwatchers a b\ntie b a", 2)
        text = "places b a c\nwatchers b a\ntie b a"
        self.check_net(Net(text), text)

    def test_a_tie_twice(self):
        self.refused("places a b c\nwatchers a b\ntie a b\ntie a b", 4)
        self.refused("places a b c\nwatchers a b\ntie a b\ntie b a", 4)
        self.refused("places a b c\nwatchers a b\ntie a b\ntie a c\ntie a b\ntie b c", 5)

    def test_lines_out(self):
        lines = STAR.split("\n")
        self.refused("\n".join(lines[1:]), 1)
        self.refused("\n".join(lines[:1] + lines[2:]), 2)
        self.refused("\n".join(lines[2:]), 1)
        self.refused(lines[0], 2)
        self.refused("\n".join(lines[:2]), 3)
        self.refused(lines[1], 1)
        self.refused(lines[2], 1)
        text = "\n".join(lines[:2] + lines[3:])
        self.check_net(Net(text), text)

    def test_lines_twice(self):
        lines = STAR.split("\n")
        for at in range(len(lines)):
            self.refused("\n".join(lines[:at + 1] + lines[at:]), at + 2)
        self.refused(STAR + "\n" + lines[0], 6)
        self.refused(STAR + "\n" + lines[1], 6)
        self.refused(STAR + "\n" + STAR, 6)

    def test_lines_exchanged(self):
        lines = STAR.split("\n")
        self.refused("\n".join([lines[1], lines[0], *lines[2:]]), 1)
        self.refused("\n".join([lines[0], lines[2], lines[1], *lines[3:]]), 2)
        self.refused("\n".join([lines[2], lines[1], lines[0], *lines[3:]]), 1)
        text = "\n".join([*lines[:2], lines[4], lines[3], lines[2]])
        self.check_net(Net(text), text)

    def test_lines_put_in(self):
        lines = STAR.split("\n")
        for line in ("", " ", "survey", "tie", "x", "# a", "places", "watchers x y"):
            for at in range(len(lines) + 1):
                self.refused("\n".join(lines[:at] + [line] + lines[at:]), at + 1)

    def test_words_put_in_or_out(self):
        lines = STAR.split("\n")
        for at, line in enumerate(lines):
            wrong = ["x " + line, line + " X", line + " " + line.split(" ")[-1], line.split(" ", 1)[1], line.split(" ")[0]]
            wrong += [line.upper(), line.title(), line.replace(" ", ""), line.replace(" ", ","), "x" + line]
            for other in wrong:
                self.refused("\n".join(lines[:at] + [other] + lines[at + 1:]), at + 1)

    def test_blanks(self):
        lines = STAR.split("\n")
        for at, line in enumerate(lines):
            for other in (line + " ", " " + line, line + "  ", line.replace(" ", "  "), line.replace(" ", "  ", 1),
                          "  ".join(line.rsplit(" ", 1))):
                self.refused("\n".join(lines[:at] + [other] + lines[at + 1:]), at + 1)

    def test_line_feeds_at_the_ends(self):
        self.refused(STAR + "\n", 6)
        self.refused(STAR + "\n\n", 6)
        self.refused("\n" + STAR, 1)
        self.refused(STAR.replace("\n", "\n\n"), 2)
        self.refused("places a b c\n", 2)
        self.refused("places a b c\n\n", 2)
        self.refused("places a b c\nwatchers a b\n", 3)
        self.refused("places a b c\nwatchers a b\n\n", 3)

    def test_without_signs(self):
        self.refused("", 1)
        self.refused("\n", 1)
        self.refused("\n\n", 1)
        self.refused(" ", 1)

    def test_the_first_wrong_line_is_told(self):
        self.refused("places a b\nwatchers a\ntie a", 1)
        self.refused("places a b c\nwatchers a\ntie a", 2)
        self.refused("places a b c\nwatchers a b\ntie a\ntie b", 3)
        self.refused("places a b", 1)
        self.refused("places a b c\nwatchers a", 2)
        self.refused("places a b c\nwatchers a b\ntie a b\ntie b\ntie c", 4)

    def test_no_strings(self):
        for value in any_values():
            if not isinstance(value, str):
                self.refused(value, 0)
        self.refused(Net(STAR), 0)
        self.refused([STAR], 0)
        self.refused(STAR.split("\n"), 0)
        self.refused(True, 0)
        self.refused(None, 0)


class Members(Checks):

    def setUp(self):
        self.star = Net(STAR)
        self.house = Net(HOUSE)

    def test_len(self):
        self.check(len(self.star), 3)
        self.check(len(self.house), 5)

    def test_its_ties_are_in_it(self):
        for net in (self.star, self.house):
            for tie in net.ties:
                self.assertIs(tie in net, True)
                self.assertIs(tie not in net, False)
                self.assertIs(tuple(list(tie)) in net, True)

    def test_exactly_its_ties_are_in_it(self):
        for net in (self.star, self.house):
            words = (*net.places, "x", "")
            for pair in itertools.product(words, repeat=2):
                self.assertIs(pair in net, pair in net.ties)

    def test_a_tie_the_other_way_about_is_not(self):
        for net in (self.star, self.house):
            for one, other in net.ties:
                self.assertIs((other, one) in net, False)

    def test_lists_and_longer_tuples_are_not(self):
        for one, other in self.house.ties:
            for value in ([one, other], (one, other, one), (one, other, ""), (one,), one, one + other,
                          one + " " + other, ((one, other),), {one: other}, (one, [other])):
                self.assertIs(value in self.house, False)

    def test_values_of_any_kind_are_not(self):
        for value in any_values():
            self.assertIs(value in self.star, False)
            self.assertIs((value, "m") in self.star, False)
            self.assertIs(("a", value) in self.star, False)
        self.assertIs(self.star in self.star, False)


class Equality(Checks):

    def test_equal_texts(self):
        for text in (STAR, HOUSE):
            self.assertIs(Net(text) == Net(text), True)
            self.assertIs(Net(text) != Net(text), False)
            net = Net(text)
            self.assertIs(net == net, True)

    def test_other_texts(self):
        lines = STAR.split("\n")
        others = [HOUSE, "\n".join([*lines[:2], lines[3], lines[2], lines[4]]), "\n".join(lines[:4]),
                  STAR.replace("watchers a b c", "watchers a b"), STAR.replace("places a b", "places b a").replace(
                      "watchers a b", "watchers b a"), STAR.replace("m", "n")]
        for other in others:
            self.assertIs(Net(STAR) == Net(other), False)
            self.assertIs(Net(other) == Net(STAR), False)
            self.assertIs(Net(STAR) != Net(other), True)

    def test_nothing_else(self):
        net = Net(STAR)
        for value in any_values() + [STAR, net.ties, list(net.ties), net.places, len(net), (net,), [net]]:
            if not isinstance(value, Net):
                self.assertIs(net == value, False)
                self.assertIs(value == net, False)
                self.assertIs(net != value, True)
                self.assertIs(value != net, True)


if __name__ == "__main__":
    unittest.main()

"""Points 21 and 22: names, and the text of a web."""

from oldnews.errors import BadNames
from oldnews.webs import Web
from oldnews.writing import format_web
from tests.support import Case, constant_web

EXAMPLE = Web([("rows", (0, 1), (0, 1, 1, 0)), ("terms", ((0, 1), (1, -1)), ((0,), (1,)))])


class FormatTest(Case):
    def test_example(self):
        self.assertRow(self.unchanged(format_web, ("mill", "oak"), EXAMPLE),
                       "web 2\nmill rows mill oak : 0110\noak terms mill !oak : mill oak")

    def test_no_heard_house(self):
        web = Web([("rows", (), (1,)), ("rows", (), (0,)), ("terms", (), ()),
                   ("terms", (), ((),))])
        self.assertRow(format_web(["a", "b", "c", "d"], web),
                       "web 4\na rows : 1\nb rows : 0\nc terms :\nd terms : *")

    def test_no_terms_and_the_empty_term(self):
        web = Web([("terms", ((0, 1), (1, -1)), ()), ("terms", ((0, -1), (1, -1)), ((),))])
        self.assertRow(format_web(("a", "b"), web), "web 2\na terms a !b :\nb terms !a !b : *")

    def test_terms_of_several_houses(self):
        web = Web([("terms", ((0, 1), (1, -1), (2, 1)), ((0, 1), (0, 2), (1, 2)))]
                  + [("rows", (0, 2), (0, 0, 0, 1))] * 2)
        self.assertRow(format_web(("x", "b", "c"), web),
                       "web 3\nx terms x !b c : x+b x+c b+c\nb rows x c : 0001\nc rows x c : 0001")

    def test_long_names_and_names_like_words(self):
        names = ("abcdefgh", "zyxwvuts", "web", "rows", "terms")
        lines = format_web(names, constant_web(5)).split("\n")
        self.assertEqual(lines, ["web 5"] + [name + " rows : 0" for name in names])

    def test_twelve_houses(self):
        names = "abcdefghijkl"
        web = Web([("rows", (0, 3, 10, 11), (0, 1) * 8)] * 12)
        lines = format_web(tuple(names), web).split("\n")
        self.assertEqual(lines, ["web 12"] + [name + " rows a d k l : " + "01" * 8
                                              for name in names])


class NamesTest(Case):
    def test_bad_names(self):
        for names in ((), ("a",), ("a", "b", "c"), ("a", "a"), ("", "b"), ("a", "abcdefghi"),
                      ("A", "b"), ("a", "b1"), ("a b", "c"), ("a", "b_"), ("a", "-"),
                      ("a", "!b"), ("*", "a"), ("a", "b\n"), (" a", "b"), ("a+b", "c")):
            self.refused(BadNames, format_web, names, EXAMPLE, row=names)
            self.refused(BadNames, format_web, list(names), EXAMPLE, row=names)

    def test_lengths(self):
        for length in range(1, 9):
            self.assertEqual(format_web(("x" * length,), constant_web(1)),
                             "web 1\n" + "x" * length + " rows : 0")
        self.refused(BadNames, format_web, ("x" * 9,), constant_web(1), row=("x" * 9,))

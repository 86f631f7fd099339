"""Point 23: reading the text of a web, and the place of the first fault."""

import random

from oldnews.errors import BadText
from oldnews.reading import read_web
from oldnews.webs import Web
from oldnews.writing import format_web
from tests.support import Case, some_webs

NAMES = ("mill", "oak", "web", "rows", "terms", "abcdefgh", "b", "c", "d", "e", "f", "zz")


class ReadTest(Case):
    def test_example(self):
        found = read_web("web 2\nmill rows mill oak : 0110\noak terms mill !oak : mill oak")
        self.assertIs(found.__class__, tuple)
        names, web = found
        self.assertRow(names, ("mill", "oak"))
        self.assertIs(web.__class__, Web)
        self.assertRow(web.rows(), (("rows", (0, 1), (0, 1, 1, 0)),
                                    ("terms", ((0, 1), (1, -1)), ((0,), (1,)))))

    def test_what_was_written(self):
        for size in range(1, 13):
            for web in some_webs(size, 8):
                names = NAMES[:size]
                found, read = read_web(format_web(names, web))
                self.assertRow(found, names)
                self.assertRow(read.rows(), web.rows())

    def test_names_like_words(self):
        names, web = read_web("web 3\nweb rows web : 01\nrows terms rows !terms : rows terms\n"
                              "terms rows web rows terms : 01010101")
        self.assertRow(names, ("web", "rows", "terms"))
        self.assertRow(web.rows(), (
            ("rows", (0,), (0, 1)), ("terms", ((1, 1), (2, -1)), ((1,), (2,))),
            ("rows", (0, 1, 2), (0, 1) * 4)))

    def test_no_heard_house_and_no_terms(self):
        names, web = read_web("web 4\na rows : 1\nb terms :\nc terms : *\nd terms !a b :")
        self.assertRow(names, ("a", "b", "c", "d"))
        self.assertRow(web.rows(), (("rows", (), (1,)), ("terms", (), ()),
                                    ("terms", (), ((),)), ("terms", ((0, -1), (1, 1)), ())))

    def test_four_heard_houses(self):
        head = "web 5\na rows a b c e : 0110100110010110"
        rest = "".join("\n" + name + " rows : 0" for name in "bcde")
        self.assertRow(read_web(head + rest)[1].hears(0), (0, 1, 2, 4))


class FaultsTest(Case):
    def fault(self, text, line, word):
        with self.subTest(text=text):
            self.refused(BadText, read_web, text, line=line, word=word)

    def test_line_1(self):
        for head, word in (("", 0), ("webs 1", 0), ("Web 1", 0), (" web 1", 0), ("1 web", 0),
                           (" ", 0), ("web", 1), ("web ", 1), ("web  1", 1), ("web 0", 1),
                           ("web 13", 1), ("web 01", 1), ("web 1x", 1), ("web -1", 1),
                           ("web +1", 1), ("web one", 1), ("web 100", 1), ("web 1_0", 1),
                           ("web 1 ", 2), ("web 1 x", 2), ("web 1  ", 2), ("web 1 : 0", 2)):
            self.fault(head + "\na rows : 0", 1, word)
            self.fault(head, 1, word)

    def test_vast_number(self):
        self.fault("web " + "9" * 6000, 1, 1)

    def test_number_of_lines(self):
        self.fault("web 1", 2, 0)
        self.fault("web 12", 2, 0)
        self.fault("web 2\na rows : 0", 3, 0)
        self.fault("web 3\na rows : 0\nb rows : 0", 4, 0)
        self.fault("web 1\na rows : 0\n", 3, 0)
        self.fault("web 1\na rows : 0\nb rows : 0", 3, 0)
        self.fault("web 1\na rows : 0\n\n\n", 3, 0)
        self.fault("web 2\na rows : 0\nb rows : 0\nc rows : 0", 4, 0)

    def test_number_of_lines_comes_before_names(self):
        self.fault("web 2\nA rows : 0", 3, 0)
        self.fault("web 1\n\n", 3, 0)
        self.fault("web 1\nA no\nB", 3, 0)

    def test_names(self):
        for name in ("", "A", "a1", "abcdefghi", ":", "!a", "*", "a+b", "a-b", "mIll"):
            self.fault("web 1\n" + name + " rows : 0", 2, 0)
            self.fault("web 2\na rows : 0\n" + name + " rows : 0", 3, 0)
        self.fault("web 1\n", 2, 0)
        self.fault("web 2\n\nb rows : 0", 2, 0)
        self.fault("web 2\na rows : 0\na rows : 0", 3, 0)
        self.fault("web 3\na rows : 0\nb rows : 0\na rows : 0", 4, 0)

    def test_names_come_before_other_words(self):
        self.fault("web 2\na no : 0\na rows : 0", 3, 0)
        self.fault("web 3\na\nb\n", 4, 0)

    def test_kind(self):
        for kind in ("", "row", "Rows", "term", ":", "a", "rows:", "termss"):
            self.fault("web 1\na " + kind + " : 0", 2, 1)
        self.fault("web 1\na", 2, 1)
        self.fault("web 1\na ", 2, 1)
        self.fault("web 2\na rows : 0\nb", 3, 1)

    def test_heard_houses(self):
        for kind in ("rows", "terms"):
            head = "web 3\na rows : 0\nb rows : 0\nc " + kind
            self.fault(head, 4, 2)
            self.fault(head + " ", 4, 2)
            self.fault(head + " d : 01", 4, 2)
            self.fault(head + " A : 01", 4, 2)
            self.fault(head + " a", 4, 3)
            self.fault(head + " a b", 4, 4)
            self.fault(head + " a b ", 4, 4)
            self.fault(head + " b a : 0110", 4, 3)
            self.fault(head + " a a : 0110", 4, 3)
            self.fault(head + " a  : 01", 4, 3)
            self.fault(head + " a ::", 4, 3)
            self.fault(head + " a+b :", 4, 2)
            self.fault(head + " * :", 4, 2)
            self.fault(head + "  :", 4, 2)
            self.fault(head + " 0", 4, 2)

    def test_signs(self):
        head = "web 2\na rows : 0\nb "
        self.fault(head + "rows !a : 01", 3, 2)
        self.fault(head + "rows a !b : 0110", 3, 3)
        self.fault(head + "terms !!a :", 3, 2)
        self.fault(head + "terms ! :", 3, 2)
        self.fault(head + "terms !: :", 3, 2)
        self.fault(head + "terms a! :", 3, 2)
        self.fault(head + "terms !a a :", 3, 3)
        self.fault(head + "terms !b !a :", 3, 3)
        self.fault(head + "terms !c :", 3, 2)

    def test_a_fifth_heard_house(self):
        for kind in ("rows", "terms"):
            lines = ["web 6"] + [name + " rows : 0" for name in "abcde"]
            self.fault("\n".join(lines + ["f " + kind + " a b c d e : " + "0" * 32]), 7, 6)
            self.fault("\n".join(lines + ["f " + kind + " a b c d"]), 7, 6)
            self.fault("\n".join(lines + ["f " + kind + " a b c d "]), 7, 6)

    def test_bits(self):
        for heard, right in (("", "1"), (" a", "01"), (" a b", "0110")):
            head = "web 2\na rows : 0\nb rows" + heard + " :"
            place = len((heard + " :").split()) + 2
            read_web(head + " " + right)
            self.fault(head, 3, place)
            self.fault(head + " ", 3, place)
            self.fault(head + " :", 3, place)
            self.fault(head + " " + right + "0", 3, place)
            self.fault(head + " " + right[1:], 3, place)
            self.fault(head + " " + right[1:] + "2", 3, place)
            self.fault(head + " " + right[1:] + "x", 3, place)
            self.fault(head + " " + right + " ", 3, place + 1)
            self.fault(head + " " + right + " " + right, 3, place + 1)
            self.fault(head + " " + right + " : x", 3, place + 1)
            self.fault(head + "  " + right, 3, place)

    def test_terms(self):
        head = "web 3\na rows : 0\nb rows : 0\nc terms a !c : "
        read_web(head + "a c")
        read_web(head + "a+c")
        read_web(head + "*")
        for word in ("", "b", "d", "!c", "a+a", "c+a", "a+b", "+", "a+", "+a", "a++c", "**",
                     "a+*", "*+a", ":", "a+!c", "A", "1"):
            self.fault(head + word, 4, 5)
            self.fault(head + word + " a", 4, 5)
            self.fault(head + "a " + word, 4, 6)

    def test_order_of_terms(self):
        head = "web 4\na rows : 0\nb rows : 0\nc rows : 0\nd terms a b c : "
        read_web(head + "a+b a+c b+c")
        self.fault(head + "b a", 5, 7)
        self.fault(head + "a a", 5, 7)
        self.fault(head + "a+c a+b", 5, 7)
        self.fault(head + "a+b b+c a+c", 5, 8)
        self.fault(head + "* *", 5, 7)

    def test_terms_that_contain_others(self):
        head = "web 4\na rows : 0\nb rows : 0\nc rows : 0\nd terms a b c : "
        self.fault(head + "a a+b", 5, 7)
        self.fault(head + "a+b b", 5, 7)
        self.fault(head + "a+b+c b", 5, 7)
        self.fault(head + "* a", 5, 7)
        self.fault(head + "a *", 5, 7)
        self.fault(head + "a+b a+c c", 5, 8)
        self.fault(head + "a b+c c", 5, 8)

    def test_empty_texts_and_lines(self):
        self.fault("", 1, 0)
        self.fault("\n", 1, 0)
        self.fault(" \n ", 1, 0)
        self.fault("\nweb 1\na rows : 0", 1, 0)
        self.fault("web 1\n\na rows : 0", 3, 0)

    def test_several_faults(self):
        # Each text keeps the faults that are searched later.
        tail = "\nA\na no\nb rows d : x"
        self.fault("wob 9 9" + tail, 1, 0)
        self.fault("web 0 9" + tail, 1, 1)
        self.fault("web 3 9" + tail, 1, 2)
        self.fault("web 9" + tail, 5, 0)
        self.fault("web 2" + tail, 4, 0)
        self.fault("web 3" + tail, 2, 0)
        self.fault("web 3\nc" + tail[2:], 2, 1)
        self.fault("web 3\nc rows : 2" + tail[2:], 2, 3)
        self.fault("web 3\nc rows : 0" + tail[2:], 3, 1)
        self.fault("web 3\nc rows : 0\na terms :\nb rows d : x", 4, 2)
        self.fault("web 3\nc rows : 0\na terms :\nb rows a : x x", 4, 4)

    def test_changed_texts(self):
        """What is read is the text of a web exactly if writing it gives the text again."""
        rng = random.Random(5)
        signs = "abc :!+*01\n 2A"
        right = 0
        for size in (1, 2, 3):
            for web in some_webs(size, 30):
                text = format_web(("a", "b", "c")[:size], web)
                for _ in range(40):
                    at = rng.randrange(len(text) + 1)
                    other = text[:at] + rng.choice(signs) + text[at + rng.randint(0, 1):]
                    try:
                        names, read = read_web(other)
                    except BadText as fault:
                        self.check_place(other, fault)
                    else:
                        right += 1
                        self.assertEqual(format_web(names, read), other)
        self.assertGreater(right, 100)

    def check_place(self, text, fault):
        """A fault is at a word of the text, or at the first one that is missing."""
        lines = text.split("\n")
        self.assertTrue(1 <= fault.line <= len(lines) + 1)
        if fault.line <= len(lines):
            words = lines[fault.line - 1].split(" ")
            self.assertTrue(0 <= fault.word <= len(words))

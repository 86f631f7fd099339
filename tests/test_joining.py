"""Point 20: webs side by side."""

from oldnews.errors import BadSize
from oldnews.joining import beside
from oldnews.webs import Web
from tests.support import Case, all_states, constant_web, copying_web, some_webs


class BesideTest(Case):
    def test_two_webs(self):
        web = Web([("rows", (0, 1), (0, 1, 1, 0)), ("terms", ((0, 1), (1, -1)), ((0,), (1,)))])
        other = Web([("terms", ((0, -1),), ((0,),))])
        self.assertRow(beside(web, other).rows(), web.rows() + (("terms", ((2, -1),), ((2,),)),))
        self.assertRow(beside(other, web).rows(), (
            other.rows()[0], ("rows", (1, 2), (0, 1, 1, 0)),
            ("terms", ((1, 1), (2, -1)), ((1,), (2,)))))
        self.assertRow(web.rows()[0], ("rows", (0, 1), (0, 1, 1, 0)))

    def test_one_web(self):
        for web in some_webs(3, 5):
            self.assertIs(beside(web).__class__, Web)
            self.assertRow(beside(web).rows(), web.rows())

    def test_the_same_web_twice(self):
        web = copying_web(2)
        self.assertRow(beside(web, web).rows(), tuple(
            ("rows", (house,), (0, 1)) for house in range(4)))

    def test_images(self):
        first, second, third = some_webs(1, 1)[0], some_webs(2, 1)[0], some_webs(3, 1)[0]
        together = beside(first, second, third)
        self.assertEqual(together.size, 6)
        for state in all_states(6):
            self.assertRow(together.image(state), first.image(state[:1])
                           + second.image(state[1:3]) + third.image(state[3:]))

    def test_no_web(self):
        self.refused(BadSize, beside, count=0)

    def test_twelve_and_thirteen_houses(self):
        self.assertEqual(beside(copying_web(5), constant_web(7)).size, 12)
        self.assertEqual(beside(*[constant_web(1)] * 12).size, 12)
        self.refused(BadSize, beside, copying_web(6), constant_web(7), count=13)
        self.refused(BadSize, beside, constant_web(12), constant_web(12), constant_web(1), count=25)

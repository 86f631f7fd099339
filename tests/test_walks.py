"""Point 37: walks."""

from oldnews.errors import BadRun, BadState
from oldnews.runs import run_states
from oldnews.walks import Walk
from oldnews.webs import Web
from tests.support import OPPOSITES, VAST, Case

LOOKS = ((0, (0,)),)


class WalkTest(Case):
    def check(self, walk, states, run):
        self.assertRow(walk.state, states[-1])
        self.assertRow(walk.beats, len(run))
        self.assertRow(walk.states(), states)
        self.assertRow(walk.run(), run)

    def test_beat_by_beat(self):
        web = Web(OPPOSITES)
        walk = Walk(web, [0, 0])
        self.check(walk, ((0, 0),), ())
        self.assertRow(walk.advance(LOOKS), (1, 0))
        self.check(walk, ((0, 0), (1, 0)), (LOOKS,))
        self.assertRow(walk.advance([]), (1, 0))
        self.check(walk, ((0, 0), (1, 0), (1, 0)), (LOOKS, ()))
        self.assertRow(walk.advance([[0, [0]], [1, [2]]]), (1, 1))
        self.check(walk, ((0, 0), (1, 0), (1, 0), (1, 1)),
                   (LOOKS, (), ((0, (0,)), (1, (2,)))))
        self.assertRow(run_states(web, (0, 0), walk.run()), walk.states())

    def test_a_walk_does_not_change_by_a_bad_beat(self):
        walk = Walk(Web(OPPOSITES), (0, 0))
        walk.advance(LOOKS)
        before = walk.state, walk.beats, walk.states(), walk.run()
        for looks, place in ((((2, (0,)),), 0), (((0, (0,)), (0, (0,))), 1), (((1, ()),), 0),
                             (((0, (1,)), (1, (2,))), 1), (((0, (-1,)),), 0),
                             (((-VAST, (0,)),), 0), (((0, (VAST,)),), 0)):
            self.refused(BadRun, walk.advance, looks, beat=1, place=place)
            self.assertEqual((walk.state, walk.beats, walk.states(), walk.run()), before)
        self.assertRow(walk.advance(((1, (1,)),)), (1, 1))

    def test_arguments_are_copied(self):
        start, looks = [0, 0], [[0, [0]]]
        walk = Walk(Web(OPPOSITES), start)
        walk.advance(looks)
        self.assertEqual((start, looks), ([0, 0], [[0, [0]]]))
        start[0] = 1
        looks[0][1][0] = 7
        looks.append([1, [0]])
        self.check(walk, ((0, 0), (1, 0)), (LOOKS,))

    def test_start(self):
        for start in ((), (0,), (0, 0, 0), (0, 2), (-1, 0), (VAST, 0)):
            self.refused(BadState, Walk, Web(OPPOSITES), list(start), row=start)

    def test_two_walks(self):
        web = Web(OPPOSITES)
        first, second = Walk(web, (0, 0)), Walk(web, (0, 0))
        first.advance(LOOKS)
        self.check(second, ((0, 0),), ())

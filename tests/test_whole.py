"""Point 0.2 (a) to (d), whatever is done in whatever order, and 6.3 behind it."""

import itertools
import random
import unittest

from sureroad.pieces import pieces_of
from sureroad.worlds import World, calm

ROADS = ("there", "back")

# How often each act is drawn: a world where nobody falls, and worlds where one or both do. Steps are many, or the
# roads would only fill and nothing would ever be given out ahead of the calm.
PLAIN = {"hand": 4, "start": 4, "tick": 8, "step": 90, "lose": 4, "double": 4, "spoil": 4}
NOBODY = dict(PLAIN)
SENDER = dict(PLAIN, sender=1)
HEARER = dict(PLAIN, hearer=1)
BOTH = dict(PLAIN, sender=1, hearer=1)
OFTEN = dict(PLAIN, tick=12, start=8, sender=2, hearer=2)
CROWDED = dict(PLAIN, tick=12, double=12, step=60, hearer=1)
MIXES = (NOBODY, SENDER, HEARER, BOTH, OFTEN, CROWDED)


class Watched(World):
    """A world that keeps of how many messages the sender was sure when each opening began."""

    def __init__(self, window, most):
        World.__init__(self, window, most)
        self.begins = {0: 0}

    def start(self):
        World.start(self)
        self.begins.setdefault(self.opening_of("sender"), self.sure_of())

    def step(self, road):
        World.step(self, road)
        self.begins.setdefault(self.opening_of("sender"), self.sure_of())


class Watcher:
    """A world, with all that was handed in, and what was seen of it so far."""

    def __init__(self, test, window, most, draws):
        self.test = test
        self.most = most
        self.draws = draws
        self.world = Watched(window, most)
        self.messages = []
        self.fallen = False
        self.given = ()
        self.sure = 0

    def act(self, name):
        draws, world = self.draws, self.world
        road = draws.choice(ROADS)
        k = draws.randrange(len(world.on_road(road)) + 2)
        if name == "hand":
            self.hand()
        elif name == "start":
            world.start()
        elif name == "tick":
            world.tick()
        elif name == "step":
            world.step(road)
        elif name == "lose":
            world.lose(road, k)
        elif name == "double":
            world.double(road, k)
        elif name == "spoil":
            world.spoil(road, k, draws.randrange(-20, 40), draws.randrange(-600, 600))
        else:
            self.fallen = True
            world.fall(name)
        self.check()

    def hand(self):
        # Few letters, so that many messages and pieces are like one another; or many, so that few are.
        letters = self.draws.choice((2, 256))
        message = tuple(self.draws.randrange(letters) for times in range(self.draws.randrange(13)))
        self.messages.append(message)
        self.world.hand(message)

    def calm_down(self):
        calm(self.world, sum(len(pieces_of(message, self.most)) for message in self.messages) + 4)
        self.check()
        self.test.assertEqual(self.world.state_of(), "open")
        self.test.assertEqual(self.world.sure_of(), len(self.messages))
        self.test.assertEqual(self.world.on_road("there"), ())
        self.test.assertEqual(self.world.on_road("back"), ())

    def check(self):
        world, test = self.world, self.test
        given = world.given_out()
        test.assertEqual(given[:len(self.given)], self.given)
        self.given = given
        test.assertGreaterEqual(world.sure_of(), self.sure)
        self.sure = world.sure_of()
        if not self.fallen:
            test.assertEqual([message for _, message in given], self.messages[:len(given)])
        test.assertLessEqual(self.sure, self.told_so_far())

    def told_so_far(self):
        """Of how many messages, from the first on, each was given out; every run is judged on the way."""
        behind = 0
        openings = []
        for opening, run in itertools.groupby(self.given, lambda pair: pair[0]):
            openings.append(opening)
            row = [message for _, message in run]
            begin = self.world.begins[opening]
            self.test.assertLessEqual(begin, behind)
            self.test.assertEqual(row, self.messages[begin:begin + len(row)])
            behind = begin + len(row)
        self.test.assertEqual(openings, sorted(set(openings)))
        return behind


class WholeTest(unittest.TestCase):
    def run_of(self, window, most, mix, seed, acts, times):
        watcher = Watcher(self, window, most, random.Random(seed))
        names = list(mix)
        weights = list(mix.values())
        for part in range(times):
            for name in watcher.draws.choices(names, weights, k=acts):
                watcher.act(name)
            watcher.calm_down()
        return watcher

    def test_every_window_and_every_most(self):
        seed = 0
        for window, most in itertools.product(range(1, 8), range(1, 9)):
            for mix in MIXES:
                seed += 1
                with self.subTest(window=window, most=most, seed=seed):
                    self.run_of(window, most, mix, seed, 300, 2)

    def test_long_runs(self):
        for window in range(1, 8):
            for place, mix in enumerate(MIXES):
                with self.subTest(window=window, mix=place):
                    self.run_of(window, 1 + (window + place) % 4, mix, 1000 * window + place, 1500, 1)

    def test_the_runs_meet_what_they_are_for(self):
        falls, openings, doubled = 0, 0, 0
        for seed in range(20):
            watcher = self.run_of(1 + seed % 7, 1 + seed % 8, OFTEN, seed, 1200, 1)
            falls += watcher.fallen
            openings += len({opening for opening, _ in watcher.given})
            doubled += len(watcher.given) > len(watcher.messages)
        self.assertEqual(falls, 20)
        self.assertGreater(openings, 60)
        self.assertGreater(doubled, 10)

    def test_nobody_falls_so_each_is_given_out_once(self):
        for seed in range(20):
            watcher = self.run_of(1 + seed % 7, 1 + seed % 8, NOBODY, seed, 400, 1)
            self.assertEqual(watcher.world.given_out(), tuple((1, message) for message in watcher.messages))

    def test_the_draws_are_the_same_each_time(self):
        one = self.run_of(3, 2, BOTH, 77, 400, 1)
        other = self.run_of(3, 2, BOTH, 77, 400, 1)
        self.assertEqual((one.messages, one.world.given_out()), (other.messages, other.world.given_out()))


if __name__ == "__main__":
    unittest.main()

"""Points 6.1 to 6.3, with 0.3, and the interface of worlds.py."""

import itertools
import unittest

from sureroad.errors import NoCard, NoStrip
from sureroad.pieces import pieces_of
from sureroad.strips import read, written
from sureroad.worlds import World, calm

ROADS = ("there", "back")
BEYOND = (-1, -2, -3, -100, 3, 4, 100)


def full(window=3, most=2):
    """A world with three strips on each road: data there, notes back."""
    world = World(window, most)
    world.hand((1, 2, 3, 4, 5, 6, 7, 8, 9, 10, 11, 12))
    world.start()
    world.tick()
    world.step("there")
    world.step("back")
    world.tick()
    world.tick()
    for times in range(3):
        world.step("there")
    return world


def seen(world):
    return (
        world.on_road("there"), world.on_road("back"), world.given_out(), world.sure_of(), world.state_of(),
        world.opening_of("sender"), world.opening_of("hearer"),
    )


def cards(world, road):
    return [read(strip) for strip in world.on_road(road)]


def put(row, place, thing):
    return row[:place] + (thing,) + row[place + 1:]


class Recorder(World):
    """A world that keeps what it was asked to do."""

    def __init__(self, window, most):
        World.__init__(self, window, most)
        self.acts = []

    def start(self):
        self.acts.append("start")
        World.start(self)

    def tick(self):
        self.acts.append("tick")
        World.tick(self)

    def step(self, road):
        self.acts.append((road, len(self.on_road(road))))
        World.step(self, road)


class WorldTest(unittest.TestCase):
    def only(self, world, road, strips):
        """What was just done left these strips on the road, and everything else as it was ahead of it."""
        before = seen(full())
        after = put(before, ROADS.index(road), strips)
        self.assertEqual(seen(world), after)


class PlainTest(WorldTest):
    def test_a_new_one(self):
        for window, most in itertools.product(range(1, 8), range(1, 9)):
            self.assertEqual(seen(World(window, most)), ((), (), (), 0, "shut", 0, 0))

    def test_each_act_tells_none(self):
        for world in (World(2, 2), full()):
            for act, things in (
                (world.hand, ((1, 2),)), (world.start, ()), (world.tick, ()),
                (world.double, ("there", 0)), (world.double, ("back", 0)), (world.double, ("back", 99)),
                (world.spoil, ("there", 1, 0, 1)), (world.spoil, ("back", 1, 0, 0)), (world.spoil, ("back", 99, 0, 1)),
                (world.lose, ("there", 0)), (world.lose, ("back", 0)), (world.lose, ("back", 99)),
                (world.step, ("there",)), (world.step, ("back",)),
                (world.fall, ("sender",)), (world.fall, ("hearer",)), (calm, (world, 2)), (calm, (world, 0)),
            ):
                self.assertIsNone(act(*things))

    def test_the_kinds_of_what_is_told(self):
        world = full()
        for told in (world.on_road("there"), world.on_road("back"), world.given_out()):
            self.assertIs(type(told), tuple)
        self.assertEqual([type(strip) for strip in world.on_road("there")], [tuple] * 3)
        calm(world, 9)
        self.assertEqual(world.given_out(), ((1, tuple(range(1, 13))),))
        self.assertEqual([type(part) for part in world.given_out()[0]], [int, tuple])
        for told in (world.sure_of(), world.opening_of("sender"), world.opening_of("hearer")):
            self.assertIs(type(told), int)

    def test_the_walk_by_hand(self):
        world = World(2, 2)
        world.hand((5, 6, 7))
        world.tick()
        self.assertEqual(seen(world), ((), (), (), 0, "shut", 0, 0))
        world.start()
        self.assertEqual(seen(world), ((), (), (), 0, "opening", 1, 0))
        world.tick()
        self.assertEqual(seen(world), ((written(("hello", 1)),), (), (), 0, "opening", 1, 0))
        world.step("back")
        self.assertEqual(seen(world), ((written(("hello", 1)),), (), (), 0, "opening", 1, 0))
        world.step("there")
        self.assertEqual(seen(world), ((), (written(("welcome", 1)),), (), 0, "opening", 1, 1))
        world.step("back")
        self.assertEqual(seen(world), ((), (), (), 0, "open", 1, 1))
        world.tick()
        self.assertEqual(cards(world, "there"), [("data", 1, 0, (0, (5, 6))), ("data", 1, 1, (1, (7,)))])
        world.step("there")
        self.assertEqual(cards(world, "back"), [("note", 1, 1, (0, 0))])
        self.assertEqual(world.given_out(), ())
        world.step("there")
        self.assertEqual(cards(world, "back"), [("note", 1, 1, (0, 0)), ("note", 1, 2, (0, 0))])
        self.assertEqual((world.given_out(), world.sure_of()), (((1, (5, 6, 7)),), 0))
        world.step("back")
        self.assertEqual(world.sure_of(), 0)
        world.step("back")
        self.assertEqual(seen(world), ((), (), ((1, (5, 6, 7)),), 1, "open", 1, 1))

    def test_what_is_sent_is_put_behind(self):
        world = full()
        self.assertEqual([card[2] for card in cards(world, "there")], [0, 1, 2])
        self.assertEqual([card[2] for card in cards(world, "back")], [1, 2, 3])
        there = world.on_road("there")
        world.tick()
        self.assertEqual(world.on_road("there"), there + there)
        back = world.on_road("back")
        world.step("there")
        self.assertEqual(world.on_road("there"), there[1:] + there)
        self.assertEqual(world.on_road("back"), back + (written(("note", 1, 3, (0, 0, 0))),))

    def test_a_step_of_an_empty_road(self):
        for road in ROADS:
            world = World(2, 2)
            world.step(road)
            self.assertEqual(seen(world), seen(World(2, 2)))

    def test_a_who_comes_back(self):
        world = full()
        world.fall("hearer")
        self.assertEqual((world.opening_of("sender"), world.opening_of("hearer")), (1, 0))
        world.step("there")
        self.assertEqual(cards(world, "back")[-1], ("who", 1))
        for times in range(4):
            world.step("back")
        self.assertEqual((world.state_of(), world.opening_of("sender"), world.sure_of()), ("opening", 2, 0))

    def test_falls(self):
        world = full()
        before = seen(world)
        world.fall("sender")
        self.assertEqual(seen(world), put(before, 4, "shut"))
        world.fall("hearer")
        self.assertEqual(seen(world), put(put(before, 4, "shut"), 6, 0))
        world.start()
        self.assertEqual(seen(world), put(put(put(before, 4, "opening"), 5, 2), 6, 0))

    def test_a_fall_keeps_what_was_given_out_and_sure(self):
        world = full()
        calm(world, 9)
        world.fall("hearer")
        world.fall("sender")
        self.assertEqual(seen(world), ((), (), ((1, tuple(range(1, 13))),), 1, "shut", 1, 0))

    def test_two_worlds_share_nothing(self):
        one, other = full(), World(3, 2)
        self.assertEqual(seen(other), seen(World(3, 2)))
        calm(one, 9)
        self.assertEqual(seen(other), seen(World(3, 2)))

    def test_the_last_opening_that_a_card_can_tell(self):
        world = World(1, 1)
        for times in range(65535):
            world.fall("sender")
            world.start()
        world.hand((5,))
        calm(world, 2)
        self.assertEqual(seen(world), ((), (), ((65535, (5,)),), 1, "open", 65535, 65535))
        world.fall("sender")
        world.start()
        with self.assertRaises(NoCard):
            world.tick()

    def test_what_a_card_cannot_tell_is_refused_as_no_card(self):
        world = World(1, 9)
        world.hand((0,) * 9)
        calm(world, 1)
        with self.assertRaises(NoCard):
            world.tick()


class LoseAndDoubleTest(WorldTest):
    def test_lose(self):
        for road, k in itertools.product(ROADS, range(3)):
            world = full()
            strips = world.on_road(road)
            world.lose(road, k)
            self.only(world, road, strips[:k] + strips[k + 1:])

    def test_double(self):
        for road, k in itertools.product(ROADS, range(3)):
            world = full()
            strips = world.on_road(road)
            world.double(road, k)
            self.only(world, road, strips[:k + 1] + strips[k:])

    def test_where_no_strip_is(self):
        for road, k in itertools.product(ROADS, BEYOND):
            world = full()
            for act in (world.lose, world.double):
                act(road, k)
                self.only(world, road, full().on_road(road))
            world.spoil(road, k, 0, 1)
            self.only(world, road, full().on_road(road))

    def test_empty_roads(self):
        for road, k in itertools.product(ROADS, (-1, 0, 1)):
            world = World(2, 2)
            world.lose(road, k)
            world.double(road, k)
            world.spoil(road, k, 0, 1)
            self.assertEqual(seen(world), seen(World(2, 2)))

    def test_a_lost_strip_does_not_come(self):
        world = full()
        for times in range(3):
            world.lose("there", 0)
        before = seen(world)
        world.step("there")
        self.assertEqual(seen(world), before)

    def test_doubles_come_one_behind_the_other(self):
        world = World(2, 2)
        world.hand((7,))
        world.start()
        world.tick()
        world.double("there", 0)
        world.double("there", 1)
        self.assertEqual(cards(world, "there"), [("hello", 1)] * 3)
        for times in range(1, 4):
            world.step("there")
            self.assertEqual(cards(world, "back"), [("welcome", 1)] * times)


class SpoilTest(WorldTest):
    def test_each_place_and_by(self):
        for road, k, place in itertools.product(ROADS, range(3), range(-25, 25)):
            for by in (1, -1, 2, 127, 128, 255, 257, -255, -257, 1000, -10 ** 20 + 1, 10 ** 20 + 1):
                world = full()
                strips = world.on_road(road)
                at = place % len(strips[k])
                world.spoil(road, k, place, by)
                spoilt = put(strips[k], at, (strips[k][at] + by) % 256)
                self.assertNotEqual(spoilt, strips[k])
                self.only(world, road, put(strips, k, spoilt))

    def test_by_hand(self):
        world = World(2, 2)
        world.start()
        world.tick()
        self.assertEqual(world.on_road("there"), ((0, 0, 1, 1, 7),))
        world.spoil("there", 0, 9, -8)
        self.assertEqual(world.on_road("there"), ((0, 0, 1, 1, 255),))

    def test_places_far_away(self):
        for place in (10 ** 20, -10 ** 20):
            world = full()
            strips = world.on_road("there")
            world.spoil("there", 0, place, 3)
            at = place % len(strips[0])
            self.assertEqual(world.on_road("there")[0], put(strips[0], at, (strips[0][at] + 3) % 256))

    def test_by_a_multiple_of_256(self):
        for road, by in itertools.product(ROADS, (0, 256, -256, 512, 256 * 10 ** 20)):
            world = full()
            strips = world.on_road(road)
            world.spoil(road, 1, 4, by)
            self.only(world, road, strips)
            # It was not spoilt by that, so it can still be.
            world.spoil(road, 1, 0, 1)
            self.only(world, road, put(strips, 1, put(strips[1], 0, strips[1][0] + 1)))

    def test_twice(self):
        for road in ROADS:
            world = full()
            world.spoil(road, 1, 0, 1)
            spoilt = world.on_road(road)
            for place, by in ((0, -1), (0, 255), (0, 1), (3, 5), (0, 256), (0, 0)):
                world.spoil(road, 1, place, by)
                self.only(world, road, spoilt)

    def test_the_double_of_a_spoilt_one_is_spoilt(self):
        for road in ROADS:
            world = full()
            world.spoil(road, 1, 0, 1)
            world.double(road, 1)
            spoilt = world.on_road(road)
            self.assertEqual(spoilt[1], spoilt[2])
            for k in (1, 2):
                world.spoil(road, k, 0, -1)
                self.only(world, road, spoilt)

    def test_the_doubles_of_one_that_is_not_spoilt_are_spoilt_each_for_itself(self):
        for road, k in itertools.product(ROADS, (1, 2)):
            world = full()
            world.double(road, 1)
            strips = world.on_road(road)
            world.spoil(road, k, 0, 1)
            spoilt = put(strips, k, put(strips[k], 0, strips[k][0] + 1))
            self.only(world, road, spoilt)
            world.spoil(road, 3 - k, 0, 1)
            self.only(world, road, put(spoilt, 3 - k, spoilt[k]))

    def test_it_stays_spoilt_when_it_moves_up(self):
        world = full()
        world.spoil("there", 2, 0, 1)
        world.lose("there", 0)
        world.step("there")
        spoilt = world.on_road("there")
        world.spoil("there", 0, 0, -1)
        self.assertEqual(world.on_road("there"), spoilt)

    def test_a_step_of_a_spoilt_strip_loses_it(self):
        for road in ROADS:
            length = len(full().on_road(road)[0])
            for place, by in itertools.product(range(length), range(1, 256)):
                world = full()
                world.spoil(road, 0, place, by)
                strips = world.on_road(road)
                with self.assertRaises(NoStrip):
                    read(strips[0])
                world.step(road)
                self.only(world, road, strips[1:])


class CalmTest(WorldTest):
    def test_the_order_of_a_turn(self):
        world = Recorder(2, 1)
        world.hand((1, 2, 3))
        calm(world, 3)
        first = ["start", "tick", ("there", 1), ("back", 1)]
        second = ["start", "tick", ("there", 2), ("there", 1), ("back", 2), ("back", 1)]
        third = ["start", "tick", ("there", 1), ("back", 1)]
        self.assertEqual(world.acts, first + second + third)

    def test_what_lay_there_is_walked_too(self):
        world = Recorder(2, 1)
        world.hand((1, 2, 3))
        world.start()
        world.tick()
        world.tick()
        world.step("there")
        world.acts.clear()
        calm(world, 1)
        steps = [("there", 2), ("there", 1), ("back", 3), ("back", 2), ("back", 1)]
        self.assertEqual(world.acts, ["start", "tick"] + steps)
        self.assertEqual(seen(world), ((), (), (), 0, "open", 1, 1))

    def test_no_turns(self):
        world = full()
        calm(world, 0)
        self.assertEqual(seen(world), seen(full()))

    def test_as_many_as_pieces_and_four_more(self):
        messages = [(), (1,), tuple(range(40)), (2, 3), ()]
        for window, most in itertools.product(range(1, 8), range(1, 9)):
            world = World(window, most)
            for message in messages:
                world.hand(message)
            calm(world, sum(len(pieces_of(message, most)) for message in messages) + 4)
            given = tuple((1, message) for message in messages)
            self.assertEqual(seen(world), ((), (), given, 5, "open", 1, 1))

    def test_behind_falls(self):
        messages = [tuple(range(k, k + 9)) for k in range(5)]
        for window, most, who in itertools.product(range(1, 8), range(1, 9), ("sender", "hearer")):
            world = World(window, most)
            for message in messages:
                world.hand(message)
            calm(world, 6)
            world.tick()
            world.fall(who)
            calm(world, sum(len(pieces_of(message, most)) for message in messages) + 4)
            self.assertEqual(world.state_of(), "open")
            self.assertEqual(world.sure_of(), 5)
            self.assertEqual(world.on_road("there") + world.on_road("back"), ())
            self.assertEqual([message for message in messages if message not in dict(
                (message, opening) for opening, message in world.given_out())], [])

    def test_without_messages(self):
        world = World(4, 4)
        calm(world, 4)
        self.assertEqual(seen(world), ((), (), (), 0, "open", 1, 1))
        world.hand((1,))
        calm(world, 1)
        self.assertEqual(seen(world), ((), (), ((1, (1,)),), 1, "open", 1, 1))


if __name__ == "__main__":
    unittest.main()

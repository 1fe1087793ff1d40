"""A world: a sender, a hearer, and the two roads between them."""

from sureroad.errors import NoStrip
from sureroad.hearing import Hearer
from sureroad.sending import Sender
from sureroad.strips import read, written


class World:
    def __init__(self, window, most):
        self.sender = Sender(window, most)
        self.hearer = Hearer(window)
        # Each road is a row of pairs: a strip, and whether it was spoilt by then.
        self.roads = {"there": [], "back": []}

    def hand(self, message):
        self.sender.hand(message)

    def start(self):
        self.sender.start()

    def tick(self):
        self.put_behind("there", self.sender.tick())

    def step(self, road):
        if self.has_strip(road, 0):
            self.arrive(road, self.roads[road].pop(0)[0])

    def lose(self, road, k):
        if self.has_strip(road, k):
            self.roads[road].pop(k)

    def double(self, road, k):
        if self.has_strip(road, k):
            self.roads[road].insert(k, self.roads[road][k])

    def spoil(self, road, k, place, by):
        # A change by nothing is none: such a strip may still be spoilt later.
        if self.has_strip(road, k) and not self.roads[road][k][1] and by % 256 != 0:
            self.roads[road][k] = (changed(self.roads[road][k][0], place, by), True)

    def fall(self, who):
        if who == "sender":
            self.sender.fall()
        if who == "hearer":
            self.hearer.fall()

    def on_road(self, road):
        return tuple([entry[0] for entry in self.roads[road]])

    def given_out(self):
        return tuple(self.hearer.given)

    def sure_of(self):
        return self.sender.sure

    def state_of(self):
        return self.sender.state

    def opening_of(self, who):
        return self.sender.opening if who == "sender" else self.hearer.opening

    def has_strip(self, road, k):
        # Python would count from the end below 0.
        return 0 <= k < len(self.roads[road])

    def put_behind(self, road, cards):
        for card in cards:
            self.roads[road].append((written(card), False))

    def arrive(self, road, strip):
        try:
            card = read(strip)
        except NoStrip:
            card = None
        if card is not None and road == "there":
            self.put_behind("back", self.hearer.hears(card))
        if card is not None and road == "back":
            self.put_behind("there", self.sender.hears(card))


def changed(strip, place, by):
    cells = list(strip)
    at = place % len(cells)
    cells[at] = (cells[at] + by) % 256
    return tuple(cells)


def calm(world, count):
    for turn in range(count):
        world.start()
        world.tick()
        walk_off(world, "there")
        walk_off(world, "back")


def walk_off(world, road):
    # Nothing that a step makes is put on its own road, so as many steps as there are strips empty it.
    for strip in world.on_road(road):
        world.step(road)

"""The hearer: which pieces it takes, which messages it gives out, and what it answers."""

from sureroad.numbers import goes_round, index_near, number_of
from sureroad.pieces import letters_of


class Hearer:
    def __init__(self, window):
        self.window = window
        # The slate, which outlasts a fall.
        self.given = []
        self.opening = 0
        self.next_index = 0
        self.early = {}
        self.begun = []

    def fall(self):
        self.begin(0)

    def begin(self, opening):
        self.opening = opening
        self.next_index = 0
        self.early = {}
        self.begun = []

    def hears(self, card):
        if card[0] == "hello":
            return self.hears_hello(card[1])
        if card[0] == "data":
            return self.hears_data(card[1], card[2], card[3])
        return []

    def hears_hello(self, opening):
        if opening < self.opening:
            return []
        if opening > self.opening:
            self.begin(opening)
        return [("welcome", opening)]

    def hears_data(self, opening, number, piece):
        if opening < self.opening:
            return []
        if opening > self.opening:
            return [("who", opening)]
        self.keep(number, piece)
        self.take_all()
        return [self.note()]

    def keep(self, number, piece):
        # A small window leaves some numbers of the cards unused: no index has them, so their pieces have no place.
        if goes_round(number, self.window):
            index = index_near(number, self.next_index - self.window, self.window)
            if index >= self.next_index and index not in self.early:
                self.early[index] = piece

    def take_all(self):
        while self.next_index in self.early:
            piece = self.early.pop(self.next_index)
            self.next_index += 1
            self.take(piece)

    def take(self, piece):
        self.begun.append(piece)
        if piece[0] == 1:
            # Not by joined, which refuses what is longer than a message: nothing that was handed in is refused here.
            self.given.append((self.opening, letters_of(self.begun)))
            self.begun = []

    def note(self):
        bits = tuple([1 if self.next_index + k in self.early else 0 for k in range(self.window)])
        return ("note", self.opening, number_of(self.next_index, self.window), bits)

"""The sender: what it tells at its ticks, and what it makes of the cards that come back."""

from sureroad.numbers import goes_round, index_near, number_of
from sureroad.pieces import pieces_of


class Sender:
    def __init__(self, window, most):
        self.window = window
        self.most = most
        # The slate, which outlasts a fall.
        self.messages = []
        self.sure = 0
        self.opening = 0
        # The rest belongs to an opening, and is set anew by the next one.
        self.state = "shut"
        self.pieces = []
        self.base = 0
        self.noted = {}

    def hand(self, message):
        self.messages.append(message)
        # What is handed to a shut sender is cut when it opens.
        if self.state != "shut":
            self.pieces.extend(pieces_of(message, self.most))

    def start(self):
        if self.state == "shut":
            self.open_anew()

    def fall(self):
        self.state = "shut"

    def open_anew(self):
        self.opening += 1
        self.state = "opening"
        self.pieces = []
        for message in self.messages[self.sure:]:
            self.pieces.extend(pieces_of(message, self.most))
        self.base = 0
        self.noted = {}

    def tick(self):
        if self.state == "opening":
            return [("hello", self.opening)]
        if self.state == "open":
            return [self.data_of(index) for index in self.wanted()]
        return []

    def wanted(self):
        end = min(self.base + self.window, len(self.pieces))
        return [index for index in range(self.base, end) if index not in self.noted]

    def data_of(self, index):
        return ("data", self.opening, number_of(index, self.window), self.pieces[index])

    def hears(self, card):
        if card[1] == self.opening:
            self.hears_own(card)
        # A sender sends at its ticks alone.
        return []

    def hears_own(self, card):
        if card[0] == "welcome" and self.state == "opening":
            self.state = "open"
        elif card[0] == "who" and self.state == "open":
            self.open_anew()
        elif card[0] == "note" and self.state == "open":
            self.hears_note(card[2], card[3])

    def hears_note(self, number, bits):
        # A small window leaves some numbers of the cards unused: no index has them.
        if goes_round(number, self.window):
            index = index_near(number, self.base, self.window)
            if index <= min(self.base + self.window, len(self.pieces)):
                self.move_base(index)
                self.note_pieces(bits)

    def move_base(self, index):
        # Each message has just one last piece, so they count the messages that lie ahead of base now.
        self.sure += sum([piece[0] for piece in self.pieces[self.base:index]])
        self.base = index

    def note_pieces(self, bits):
        for k, bit in enumerate(bits):
            # A piece that is not there yet is not noted, or it would never be told once it is handed in.
            if bit == 1 and self.base + k < len(self.pieces):
                self.noted[self.base + k] = True

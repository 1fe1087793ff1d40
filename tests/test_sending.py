"""Points 4.1 to 4.4, with 0.3 and 0.4, and the interface of sending.py."""

import itertools
import unittest

from sureroad.pieces import pieces_of
from sureroad.sending import Sender

FOREIGN = (-1, 1, -2, 2, 65535)


def message_of(length, first=0):
    return tuple((29 * k + first) % 256 for k in range(length))


def opening_sender(window, most, messages):
    sender = Sender(window, most)
    for message in messages:
        sender.hand(message)
    sender.start()
    return sender


def open_sender(window, most, messages):
    sender = opening_sender(window, most, messages)
    sender.hears(("welcome", sender.opening))
    return sender


def fields(sender):
    return (sender.state, sender.sure, sender.opening, sender.base)


def seen(sender):
    """All that can be seen of a sender without changing it."""
    return fields(sender) + (sender.tick(),)


def note(sender, index, bits=()):
    return ("note", sender.opening, index % (2 * sender.window), bits)


def data(sender, pieces, indexes):
    return [("data", sender.opening, index % (2 * sender.window), pieces[index]) for index in indexes]


def all_pieces(messages, most):
    return [piece for message in messages for piece in pieces_of(message, most)]


def cards_of(opening):
    return (
        [("hello", opening), ("welcome", opening), ("who", opening)]
        + [("data", opening, number, (last, (7,))) for number in (0, 1, 13) for last in (0, 1)]
        + [("note", opening, number, bits) for number in range(14) for bits in ((), (1,), (0, 1), (1,) * 7)]
    )


class StatesTest(unittest.TestCase):
    def test_a_new_one_is_shut(self):
        for window, most in itertools.product(range(1, 8), range(1, 9)):
            self.assertEqual(seen(Sender(window, most)), ("shut", 0, 0, 0, []))

    def test_what_the_methods_tell(self):
        sender = Sender(2, 3)
        self.assertIsNone(sender.hand((1, 2)))
        self.assertIsNone(sender.start())
        self.assertIsNone(sender.start())
        self.assertIs(type(sender.tick()), list)
        self.assertEqual(sender.hears(("welcome", 1)), [])
        self.assertIs(type(sender.tick()), list)
        self.assertIsNone(sender.hand((1, 2)))
        self.assertIsNone(sender.fall())
        self.assertIsNone(sender.fall())
        self.assertIs(type(sender.tick()), list)

    def test_a_start_opens_a_shut_one(self):
        sender = opening_sender(2, 3, [(1, 2)])
        self.assertEqual(seen(sender), ("opening", 0, 1, 0, [("hello", 1)]))

    def test_a_start_changes_nothing_of_one_that_is_not_shut(self):
        sender = opening_sender(2, 3, [(1, 2), (3,)])
        sender.start()
        self.assertEqual(seen(sender), ("opening", 0, 1, 0, [("hello", 1)]))
        sender.hears(("welcome", 1))
        sender.hears(note(sender, 1))
        before = seen(sender)
        self.assertEqual(before, ("open", 1, 1, 1, [("data", 1, 1, (1, (3,)))]))
        sender.start()
        self.assertEqual(seen(sender), before)

    def test_a_fall_makes_it_shut_from_each_state(self):
        for make in (lambda w, m, row: Sender(w, m), opening_sender, open_sender):
            sender = make(2, 3, [(1,), (2,)])
            sure, opening = sender.sure, sender.opening
            sender.fall()
            self.assertEqual((sender.state, sender.sure, sender.opening, sender.tick()), ("shut", sure, opening, []))
            sender.start()
            self.assertEqual(seen(sender), ("opening", sure, opening + 1, 0, [("hello", opening + 1)]))

    def test_every_fall_and_start_is_one_more_opening(self):
        sender = Sender(3, 3)
        for opening in range(1, 400):
            sender.start()
            self.assertEqual(seen(sender), ("opening", 0, opening, 0, [("hello", opening)]))
            sender.fall()

    def test_a_tick_changes_nothing(self):
        for make in (opening_sender, open_sender):
            sender = make(3, 2, [message_of(9)])
            before = seen(sender)
            self.assertEqual(seen(sender), before)
            sender.tick().clear()
            self.assertEqual(seen(sender), before)

    def test_no_messages(self):
        sender = open_sender(2, 2, [])
        self.assertEqual(seen(sender), ("open", 0, 1, 0, []))
        sender.hears(note(sender, 0, (1, 1)))
        self.assertEqual(seen(sender), ("open", 0, 1, 0, []))


class CardsTest(unittest.TestCase):
    def unchanged(self, sender, card):
        before = seen(sender)
        self.assertEqual(sender.hears(card), [], card)
        self.assertEqual(seen(sender), before, card)

    def test_every_card_when_shut(self):
        fallen = open_sender(2, 2, [message_of(9)])
        fallen.hears(note(fallen, 1, (0, 1)))
        fallen.fall()
        for sender in (Sender(2, 2), fallen):
            for opening in range(4):
                for card in cards_of(opening):
                    self.unchanged(sender, card)
        self.assertEqual(fields(fallen)[:3], ("shut", 0, 1))

    def test_every_card_but_the_welcome_when_opening(self):
        for card in cards_of(1):
            if card[0] != "welcome":
                self.unchanged(opening_sender(2, 2, [message_of(9)]), card)

    def test_the_welcome_when_opening(self):
        messages = [message_of(9), ()]
        sender = opening_sender(2, 2, messages)
        self.assertEqual(sender.hears(("welcome", 1)), [])
        expected = data(sender, all_pieces(messages, 2), (0, 1))
        self.assertEqual(seen(sender), ("open", 0, 1, 0, expected))

    def test_hello_welcome_and_data_when_open(self):
        for card in cards_of(1):
            if card[0] not in ("who", "note"):
                sender = open_sender(2, 2, [message_of(9)])
                self.unchanged(sender, card)
                sender.hears(note(sender, 1, (0, 1)))
                self.unchanged(sender, card)

    def test_the_who_when_open(self):
        sender = open_sender(2, 2, [message_of(9)])
        self.assertEqual(sender.hears(("who", 1)), [])
        self.assertEqual(seen(sender), ("opening", 0, 2, 0, [("hello", 2)]))

    def test_a_second_who_changes_nothing(self):
        sender = open_sender(2, 2, [message_of(9)])
        sender.hears(("who", 1))
        self.unchanged(sender, ("who", 1))
        self.unchanged(sender, ("who", 2))
        sender.hears(("welcome", 2))
        self.unchanged(sender, ("who", 1))
        sender.hears(("who", 2))
        self.assertEqual(fields(sender), ("opening", 0, 3, 0))

    def test_every_card_of_another_opening(self):
        for make in (opening_sender, open_sender):
            sender = make(3, 2, [message_of(9)])
            for times in range(4):
                sender.fall()
                sender.start()
            self.assertEqual(sender.opening, 5)
            if make == open_sender:
                sender.hears(("welcome", 5))
            for by in FOREIGN:
                for card in cards_of(5 + by):
                    self.unchanged(sender, card)
            for card in cards_of(0) + cards_of(5 + 256) + cards_of(5 * 256):
                self.unchanged(sender, card)

    def test_old_notes_behind_a_new_opening(self):
        sender = open_sender(3, 1, [message_of(5)])
        sender.hears(("who", 1))
        sender.hears(("welcome", 2))
        self.unchanged(sender, ("note", 1, 2, (1, 1, 1)))
        sender.hears(("note", 2, 2, (0, 1)))
        self.assertEqual(seen(sender), ("open", 0, 2, 2, data(sender, all_pieces([message_of(5)], 1), (2, 4))))


class TicksTest(unittest.TestCase):
    def test_the_first_pieces_of_every_window(self):
        messages = [message_of(5), (), message_of(4, 9), message_of(12, 80)]
        for window, most in itertools.product(range(1, 8), range(1, 9)):
            pieces = all_pieces(messages, most)
            sender = open_sender(window, most, messages)
            expected = data(sender, pieces, range(min(window, len(pieces))))
            self.assertEqual(seen(sender), ("open", 0, 1, 0, expected))

    def test_fewer_pieces_than_the_window(self):
        for count in range(8):
            messages = [(k,) for k in range(count)]
            sender = open_sender(7, 8, messages)
            self.assertEqual(sender.tick(), data(sender, all_pieces(messages, 8), range(count)))

    def test_numbers_go_round_by_two_windows(self):
        messages = [message_of(40), message_of(11, 3)]
        pieces = all_pieces(messages, 1)
        for window in range(1, 8):
            sender = open_sender(window, 1, messages)
            for base in range(len(pieces) + 1):
                sender.hears(note(sender, base))
                self.assertEqual(sender.base, base)
                end = min(base + window, len(pieces))
                self.assertEqual(sender.tick(), data(sender, pieces, range(base, end)))
                self.assertEqual(sender.sure, (base >= 40) + (base >= 51))

    def test_noted_pieces_are_left_out(self):
        messages = [message_of(30)]
        pieces = all_pieces(messages, 1)
        for window in range(1, 8):
            for bits in itertools.product((0, 1), repeat=window):
                sender = open_sender(window, 1, messages)
                sender.hears(note(sender, 1, bits))
                left = [1 + k for k in range(window) if bits[k] == 0]
                self.assertEqual(sender.tick(), data(sender, pieces, left))

    def test_noted_pieces_stay_noted_when_base_moves(self):
        messages = [message_of(20)]
        pieces = all_pieces(messages, 1)
        sender = open_sender(4, 1, messages)
        sender.hears(note(sender, 0, (0, 1, 0, 1)))
        self.assertEqual(sender.tick(), data(sender, pieces, (0, 2)))
        sender.hears(note(sender, 0, (0, 0, 0, 0)))
        self.assertEqual(sender.tick(), data(sender, pieces, (0, 2)))
        sender.hears(note(sender, 2, (0, 0, 1)))
        self.assertEqual(sender.tick(), data(sender, pieces, (2, 5)))

    def test_bits_beyond_the_window(self):
        pieces = all_pieces([message_of(20)], 1)
        sender = open_sender(2, 1, [message_of(20)])
        sender.hears(note(sender, 0, (0, 0, 0, 1, 0, 1, 1)))
        self.assertEqual(sender.tick(), data(sender, pieces, (0, 1)))
        sender.hears(note(sender, 2))
        self.assertEqual(sender.tick(), data(sender, pieces, (2,)))
        sender.hears(note(sender, 4))
        self.assertEqual(sender.tick(), data(sender, pieces, (4,)))

    def test_the_empty_message(self):
        sender = open_sender(3, 4, [()])
        self.assertEqual(sender.tick(), [("data", 1, 0, (1, ()))])
        sender.hears(note(sender, 1))
        self.assertEqual(seen(sender), ("open", 1, 1, 1, []))

    def test_lengths_beyond_the_bounds_are_not_refused(self):
        sender = open_sender(9, 50, [message_of(60), message_of(60)])
        self.assertEqual(sender.tick()[1], ("data", 1, 1, (1, message_of(60)[50:])))
        sender.hears(("note", 1, 4, (0,) * 9))
        self.assertEqual(seen(sender), ("open", 2, 1, 4, []))


class NotesTest(unittest.TestCase):
    def expected(self, before, pieces, window, number, bits):
        """The base and the noted pieces behind a note, told by walking all indexes."""
        base, noted = before
        for index in range(base, base + window + 1):
            if index % (2 * window) == number and index <= len(pieces):
                ones = [index + k for k in range(len(bits)) if bits[k] == 1 and index + k < len(pieces)]
                return index, noted | set(ones)
        return base, noted

    def check(self, sender, messages, most, state):
        base, noted = state
        pieces = all_pieces(messages, most)
        ends = [k for k in range(len(messages)) if len(all_pieces(messages[:k + 1], most)) <= base]
        left = [index for index in range(base, min(base + sender.window, len(pieces))) if index not in noted]
        self.assertEqual(seen(sender), ("open", len(ends), 1, base, data(sender, pieces, left)))

    def test_every_number_at_every_base(self):
        messages = [message_of(3), (), message_of(7, 5), (1,), message_of(9, 100)]
        for window in range(1, 8):
            total = len(all_pieces(messages, 2))
            for base, number, bits in itertools.product(range(total + 1), range(14), ((), (0, 1, 1), (1,) * 7)):
                sender = open_sender(window, 2, messages)
                for index in range(base + 1):
                    sender.hears(note(sender, index))
                self.check(sender, messages, 2, (base, set()))
                self.assertEqual(sender.hears(("note", 1, number, bits)), [])
                state = self.expected((base, set()), all_pieces(messages, 2), window, number, bits)
                self.check(sender, messages, 2, state)

    def test_notes_one_behind_another(self):
        messages = [message_of(3), (), message_of(7, 5), (1,), message_of(9, 100)]
        rows = list(itertools.product((0, 1), repeat=3))
        for window, most in itertools.product(range(1, 8), (1, 3, 8)):
            sender = open_sender(window, most, messages)
            state = (0, set())
            for turn in range(300):
                number = (turn * turn + 5 * turn) % 14
                bits = rows[turn * 3 % 8] + rows[turn * 5 % 8]
                sender.hears(("note", 1, number, bits))
                state = self.expected(state, all_pieces(messages, most), window, number, bits)
                self.check(sender, messages, most, state)

    def test_numbers_that_do_not_go_round(self):
        for window in range(1, 7):
            sender = open_sender(window, 1, [message_of(30)])
            before = seen(sender)
            for number in (-2, -1) + tuple(range(2 * window, 16)):
                sender.hears(("note", 1, number, (1,) * window))
                self.assertEqual(seen(sender), before)

    def test_a_jump_by_the_whole_window(self):
        for window in range(1, 8):
            sender = open_sender(window, 1, [message_of(40)])
            for times in range(1, 40 // window + 1):
                sender.hears(note(sender, times * window))
                self.assertEqual(sender.base, times * window)

    def test_a_jump_by_more_than_the_window(self):
        for window in range(2, 8):
            for by in range(window + 1, 2 * window):
                sender = open_sender(window, 1, [message_of(40)])
                sender.hears(note(sender, 1))
                before = seen(sender)
                sender.hears(note(sender, 1 + by, (1,) * window))
                self.assertEqual(seen(sender), before)

    def test_an_index_greater_than_the_number_of_pieces(self):
        for window in range(1, 8):
            for count in range(window + 1):
                messages = [(k,) for k in range(count)]
                for index in range(count + 1, window + 1):
                    sender = open_sender(window, 3, messages)
                    before = seen(sender)
                    sender.hears(note(sender, index, (1,) * window))
                    self.assertEqual(seen(sender), before)
                sender = open_sender(window, 3, messages)
                sender.hears(note(sender, count, (1,) * window))
                self.assertEqual(seen(sender), ("open", count, 1, count, []))

    def test_bits_of_pieces_that_are_not_there_note_nothing(self):
        for window in range(1, 8):
            sender = open_sender(window, 1, [(5,)])
            sender.hears(note(sender, 1, (1,) * 7))
            self.assertEqual(sender.tick(), [])
            sender.hand(message_of(12))
            pieces = [(1, (5,))] + list(pieces_of(message_of(12), 1))
            self.assertEqual(sender.tick(), data(sender, pieces, range(1, 1 + window)))

    def test_bits_of_pieces_there_and_not_there(self):
        sender = open_sender(4, 1, [(5, 6)])
        sender.hears(note(sender, 0, (0, 1, 1, 0)))
        sender.hand((7, 8))
        pieces = [(0, (5,)), (1, (6,)), (0, (7,)), (1, (8,))]
        self.assertEqual(sender.tick(), data(sender, pieces, (0, 2, 3)))

    def test_sure_grows_by_whole_messages_alone(self):
        messages = [message_of(4), (), message_of(5, 7), message_of(2, 9)]
        sender = open_sender(3, 2, messages)
        grown = []
        for base in range(len(all_pieces(messages, 2)) + 1):
            sender.hears(note(sender, base))
            grown.append(sender.sure)
        self.assertEqual(grown, [0, 0, 1, 2, 2, 2, 3, 4])

    def test_sure_grows_by_several_messages_at_once(self):
        sender = open_sender(5, 8, [(1,), (2,), (), (3,), message_of(9)])
        sender.hears(note(sender, 5))
        self.assertEqual(seen(sender), ("open", 4, 1, 5, [("data", 1, 5, (1, (232,)))]))

    def test_a_note_does_not_grow_sure_twice(self):
        sender = open_sender(5, 8, [(1,), (2,), (3,)])
        for times in range(3):
            sender.hears(note(sender, 2))
            self.assertEqual((sender.sure, sender.base), (2, 2))


class HandingTest(unittest.TestCase):
    def test_when_shut(self):
        sender = Sender(3, 2)
        sender.hand((1, 2, 3))
        self.assertEqual(seen(sender), ("shut", 0, 0, 0, []))
        sender.start()
        sender.hears(("welcome", 1))
        self.assertEqual(sender.tick(), [("data", 1, 0, (0, (1, 2))), ("data", 1, 1, (1, (3,)))])

    def test_when_opening(self):
        sender = opening_sender(3, 2, [(1, 2, 3)])
        sender.hand((4,))
        self.assertEqual(seen(sender), ("opening", 0, 1, 0, [("hello", 1)]))
        sender.hears(("welcome", 1))
        pieces = [(0, (1, 2)), (1, (3,)), (1, (4,))]
        self.assertEqual(sender.tick(), data(sender, pieces, range(3)))

    def test_when_open(self):
        sender = open_sender(3, 2, [(1, 2, 3)])
        sender.hears(note(sender, 1, (1,)))
        sender.hand((4, 5, 6))
        pieces = [(0, (1, 2)), (1, (3,)), (0, (4, 5)), (1, (6,))]
        self.assertEqual(seen(sender), ("open", 0, 1, 1, data(sender, pieces, (2, 3))))
        sender.hears(note(sender, 4))
        self.assertEqual(seen(sender), ("open", 2, 1, 4, []))
        sender.hand(())
        self.assertEqual(sender.tick(), [("data", 1, 4, (1, ()))])

    def test_when_fallen(self):
        sender = open_sender(3, 2, [(1,), (2,)])
        sender.hears(note(sender, 1, (0, 0)))
        sender.fall()
        sender.hand((3,))
        self.assertEqual((sender.state, sender.sure, sender.opening, sender.tick()), ("shut", 1, 1, []))
        sender.start()
        sender.hears(("welcome", 2))
        self.assertEqual(seen(sender), ("open", 1, 2, 0, data(sender, [(1, (2,)), (1, (3,))], (0, 1))))

    def test_each_is_put_behind_once(self):
        sender = opening_sender(7, 1, [(1,)])
        sender.hand((2,))
        sender.hears(("welcome", 1))
        sender.hand((3,))
        sender.hears(("who", 1))
        sender.hand((4,))
        sender.hears(("welcome", 2))
        sender.hand((5,))
        self.assertEqual([card[3] for card in sender.tick()], [(1, (letter,)) for letter in (1, 2, 3, 4, 5)])


class OpeningAnewTest(unittest.TestCase):
    MESSAGES = [message_of(3), (), message_of(5, 50), message_of(4, 90)]

    def half_way(self):
        """Two messages are sure, one piece of the third is ahead of base, and a later one of it is noted."""
        sender = open_sender(4, 2, self.MESSAGES)
        sender.hears(note(sender, 3))
        sender.hears(note(sender, 4, (0, 1, 0, 0)))
        pieces = all_pieces(self.MESSAGES, 2)
        self.assertEqual(seen(sender), ("open", 2, 1, 4, data(sender, pieces, (4, 6, 7))))
        return sender

    def check_anew(self, sender):
        self.assertEqual(seen(sender), ("opening", 2, 2, 0, [("hello", 2)]))
        sender.hears(("welcome", 2))
        pieces = all_pieces(self.MESSAGES[2:], 2)
        self.assertEqual(seen(sender), ("open", 2, 2, 0, data(sender, pieces, range(4))))
        for base, sure in ((0, 2), (1, 2), (2, 2), (3, 3), (4, 3), (5, 4)):
            sender.hears(note(sender, base))
            self.assertEqual(seen(sender), ("open", sure, 2, base, data(sender, pieces, range(base, min(base + 4, 5)))))

    def test_by_a_who(self):
        sender = self.half_way()
        sender.hears(("who", 1))
        self.check_anew(sender)

    def test_by_a_fall_and_a_start(self):
        sender = self.half_way()
        sender.fall()
        sender.start()
        self.check_anew(sender)

    def test_a_who_while_fallen_opens_nothing(self):
        sender = self.half_way()
        sender.fall()
        sender.hears(("who", 1))
        self.assertEqual((sender.state, sender.sure, sender.opening), ("shut", 2, 1))
        sender.start()
        self.check_anew(sender)

    def test_when_all_is_sure(self):
        sender = open_sender(7, 8, [(1,), (2,)])
        sender.hears(note(sender, 2))
        sender.hears(("who", 1))
        sender.hears(("welcome", 2))
        self.assertEqual(seen(sender), ("open", 2, 2, 0, []))
        sender.hand((3,))
        self.assertEqual(sender.tick(), [("data", 2, 0, (1, (3,)))])

    def test_several_times(self):
        messages = [(letter,) for letter in range(6)]
        sender = open_sender(1, 1, messages)
        for opening in range(1, 7):
            self.assertEqual(sender.tick(), [("data", opening, 0, (1, (opening - 1,)))])
            sender.hears(note(sender, 1))
            sender.hears(("who", opening))
            sender.hears(("welcome", opening + 1))
        self.assertEqual(seen(sender), ("open", 6, 7, 0, []))


if __name__ == "__main__":
    unittest.main()

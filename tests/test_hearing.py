"""Points 5.1 to 5.3, with 0.3, and the interface of hearing.py."""

import itertools
import random
import unittest

from sureroad.hearing import Hearer
from sureroad.pieces import pieces_of


def message_of(length, first=0):
    return tuple((31 * k + first) % 256 for k in range(length))


def opened(window, opening=1):
    hearer = Hearer(window)
    hearer.hears(("hello", opening))
    return hearer


def all_pieces(messages, most):
    return [piece for message in messages for piece in pieces_of(message, most)]


def data(hearer, index, piece):
    return ("data", hearer.opening, index % (2 * hearer.window), piece)


def note(hearer, index, there=()):
    bits = tuple(1 if index + k in there else 0 for k in range(hearer.window))
    return ("note", hearer.opening, index % (2 * hearer.window), bits)


def seen(hearer):
    return (hearer.opening, hearer.next_index, list(hearer.given))


class HearerTest(unittest.TestCase):
    def told(self, hearer, card, answer, after):
        self.assertEqual(hearer.hears(card), answer, card)
        self.assertEqual(seen(hearer), after, card)

    def unchanged(self, hearer, card, answer):
        self.told(hearer, card, answer, seen(hearer))


class KindsTest(HearerTest):
    def test_a_new_one(self):
        for window in range(1, 8):
            hearer = Hearer(window)
            self.assertEqual(seen(hearer), (0, 0, []))
            self.assertIs(type(hearer.given), list)

    def test_what_the_methods_tell(self):
        hearer = Hearer(2)
        for card in (("hello", 1), ("hello", 0), ("who", 1), ("data", 1, 0, (1, (5,))), ("data", 9, 0, (1, ()))):
            self.assertIs(type(hearer.hears(card)), list)
        self.assertIsNone(hearer.fall())
        self.assertEqual(hearer.given, [(1, (5,))])
        self.assertIs(type(hearer.given[0]), tuple)
        self.assertIs(type(hearer.given[0][1]), tuple)


class HelloTest(HearerTest):
    def test_a_greater_opening(self):
        for before, after in ((0, 1), (0, 65535), (1, 2), (1, 3), (255, 256), (256, 257), (65534, 65535)):
            hearer = opened(2, before)
            self.told(hearer, ("hello", after), [("welcome", after)], (after, 0, []))

    def test_the_same_opening(self):
        for opening in (1, 2, 255, 256, 65535):
            hearer = opened(2, opening)
            for times in range(3):
                self.unchanged(hearer, ("hello", opening), [("welcome", opening)])

    def test_the_same_opening_sets_nothing_anew(self):
        hearer = opened(3)
        hearer.hears(data(hearer, 0, (0, (1,))))
        hearer.hears(data(hearer, 2, (1, (3,))))
        self.unchanged(hearer, ("hello", 1), [("welcome", 1)])
        self.told(hearer, data(hearer, 1, (0, (2,))), [note(hearer, 3)], (1, 3, [(1, (1, 2, 3))]))

    def test_a_lesser_opening(self):
        hearer = opened(3, 300)
        hearer.hears(data(hearer, 0, (1, (1,))))
        hearer.hears(data(hearer, 2, (1, (3,))))
        for opening in (0, 1, 44, 255, 256, 299):
            self.unchanged(hearer, ("hello", opening), [])
        self.told(hearer, data(hearer, 1, (1, ())), [note(hearer, 3)], (300, 3, [(300, (1,)), (300, ()), (300, (3,))]))

    def test_the_opening_of_a_new_one(self):
        self.unchanged(Hearer(2), ("hello", 0), [("welcome", 0)])

    def test_a_greater_opening_loses_the_pieces(self):
        for window in range(2, 8):
            hearer = opened(window)
            hearer.hears(data(hearer, 0, (1, (9,))))
            hearer.hears(data(hearer, 1, (0, (1,))))
            for index in range(3, window + 2):
                hearer.hears(data(hearer, index, (0, (2,))))
            self.told(hearer, ("hello", 2), [("welcome", 2)], (2, 0, [(1, (9,))]))
            # Neither the piece taken nor those that came early are there any more.
            self.told(hearer, data(hearer, 0, (0, (5,))), [note(hearer, 1)], (2, 1, [(1, (9,))]))
            self.told(hearer, data(hearer, 1, (0, (6,))), [note(hearer, 2)], (2, 2, [(1, (9,))]))
            self.told(hearer, data(hearer, 2, (1, (7,))), [note(hearer, 3)], (2, 3, [(1, (9,)), (2, (5, 6, 7))]))


class DataOfOtherOpeningsTest(HearerTest):
    def half_way(self):
        hearer = opened(3, 300)
        hearer.hears(data(hearer, 0, (0, (1,))))
        hearer.hears(data(hearer, 2, (1, (3,))))
        return hearer

    def test_a_greater_opening(self):
        hearer = self.half_way()
        for opening in (301, 302, 512, 65535):
            for number, last in itertools.product(range(14), (0, 1)):
                self.unchanged(hearer, ("data", opening, number, (last, (8,))), [("who", opening)])
        self.told(hearer, data(hearer, 1, (0, (2,))), [note(hearer, 3)], (300, 3, [(300, (1, 2, 3))]))

    def test_a_lesser_opening(self):
        hearer = self.half_way()
        for opening in (0, 1, 44, 256, 299):
            for number, last in itertools.product(range(14), (0, 1)):
                self.unchanged(hearer, ("data", opening, number, (last, (8,))), [])
        self.told(hearer, data(hearer, 1, (0, (2,))), [note(hearer, 3)], (300, 3, [(300, (1, 2, 3))]))

    def test_a_new_one_asks_who(self):
        self.unchanged(Hearer(1), ("data", 1, 0, (1, ())), [("who", 1)])

    def test_other_cards(self):
        hearer = self.half_way()
        for opening in (0, 1, 299, 300, 301, 65535):
            self.unchanged(hearer, ("welcome", opening), [])
            self.unchanged(hearer, ("who", opening), [])
            for number in range(14):
                self.unchanged(hearer, ("note", opening, number, (1, 0, 1)), [])
        self.told(hearer, data(hearer, 1, (0, (2,))), [note(hearer, 3)], (300, 3, [(300, (1, 2, 3))]))


class DataTest(HearerTest):
    def test_by_hand(self):
        hearer = opened(3, 7)
        self.told(hearer, ("data", 7, 1, (0, (2,))), [("note", 7, 0, (0, 1, 0))], (7, 0, []))
        self.told(hearer, ("data", 7, 2, (1, (3,))), [("note", 7, 0, (0, 1, 1))], (7, 0, []))
        self.told(hearer, ("data", 7, 0, (0, (1,))), [("note", 7, 3, (0, 0, 0))], (7, 3, [(7, (1, 2, 3))]))
        self.told(hearer, ("data", 7, 4, (1, ())), [("note", 7, 3, (0, 1, 0))], (7, 3, [(7, (1, 2, 3))]))
        # Late ones: a note is sent all the same.
        for number in (0, 1, 2):
            self.unchanged(hearer, ("data", 7, number, (1, (99,))), [("note", 7, 3, (0, 1, 0))])
        given = [(7, (1, 2, 3)), (7, (4,)), (7, ())]
        self.told(hearer, ("data", 7, 3, (1, (4,))), [("note", 7, 5, (0, 0, 0))], (7, 5, given))
        self.told(hearer, ("data", 7, 0, (0, (6,))), [("note", 7, 5, (0, 1, 0))], (7, 5, given))
        self.told(hearer, ("data", 7, 5, (0, (5,))), [("note", 7, 1, (0, 0, 0))], (7, 7, given))

    def test_opening_0_is_the_own_one_of_a_new_or_fallen_hearer(self):
        hearer = Hearer(2)
        self.told(hearer, ("data", 0, 1, (1, (2,))), [("note", 0, 0, (0, 1))], (0, 0, []))
        self.told(hearer, ("data", 0, 0, (0, (1,))), [("note", 0, 2, (0, 0))], (0, 2, [(0, (1, 2))]))
        hearer.fall()
        self.told(hearer, ("data", 0, 0, (1, ())), [("note", 0, 1, (0, 0))], (0, 1, [(0, (1, 2)), (0, ())]))

    def test_messages_one_behind_another(self):
        messages = [(), message_of(1), message_of(40), (), message_of(17, 3), message_of(8, 8)]
        for window, most in itertools.product(range(1, 8), range(1, 9)):
            hearer = opened(window, 5)
            given = []
            index = 0
            for message in messages:
                for piece in pieces_of(message, most):
                    given += [(5, message)] * piece[0]
                    self.told(hearer, data(hearer, index, piece), [note(hearer, index + 1)], (5, index + 1, given))
                    index += 1

    def test_a_piece_that_came_twice_is_the_first_one(self):
        for window in range(2, 8):
            hearer = opened(window)
            self.told(hearer, data(hearer, 1, (1, (2,))), [note(hearer, 0, (1,))], (1, 0, []))
            self.told(hearer, data(hearer, 1, (0, (77,))), [note(hearer, 0, (1,))], (1, 0, []))
            self.told(hearer, data(hearer, 0, (0, (1,))), [note(hearer, 2)], (1, 2, [(1, (1, 2))]))
            self.unchanged(hearer, data(hearer, 1, (1, (2,))), [note(hearer, 2)])
            self.unchanged(hearer, data(hearer, 0, (0, (1,))), [note(hearer, 2)])

    def test_which_index_a_number_means(self):
        for window in range(1, 8):
            for start in range(3 * window + 1):
                for number in range(2 * window):
                    self.check_meaning(window, start, number)

    def check_meaning(self, window, start, number):
        hearer = opened(window)
        for index in range(start):
            hearer.hears(data(hearer, index, (1, (index,))))
        given = [(1, (index,)) for index in range(start)]
        self.assertEqual(seen(hearer), (1, start, given))
        meant = [index for index in range(start - window, start + window) if index % (2 * window) == number][0]
        card = ("data", 1, number, (1, (200,)))
        if meant < start:
            self.told(hearer, card, [note(hearer, start)], (1, start, given))
        elif meant == start:
            self.told(hearer, card, [note(hearer, start + 1)], (1, start + 1, given + [(1, (200,))]))
        else:
            self.told(hearer, card, [note(hearer, start, (meant,))], (1, start, given))

    def test_numbers_that_do_not_go_round_bring_no_piece(self):
        for window in range(1, 7):
            hearer = opened(window)
            for number in (-2, -1) + tuple(range(2 * window, 16)):
                self.unchanged(hearer, ("data", 1, number, (1, (5,))), [note(hearer, 0)])
            self.told(hearer, data(hearer, 0, (1, (6,))), [note(hearer, 1)], (1, 1, [(1, (6,))]))

    def test_every_order_of_a_window(self):
        messages = [message_of(2), (), message_of(3, 7)]
        pieces = all_pieces(messages, 1)
        given = [(1, message) for message in messages]
        for window in (6, 7):
            for order in itertools.permutations(range(len(pieces))):
                hearer = opened(window)
                for index in order:
                    hearer.hears(data(hearer, index, pieces[index]))
                self.assertEqual(seen(hearer), (1, 6, given))

    def test_any_order_doubled_and_late(self):
        draws = random.Random(5)
        for window, most in itertools.product(range(1, 8), range(1, 9)):
            messages = [message_of(draws.randrange(13), draws.randrange(256)) for times in range(12)]
            self.walk(opened(window, 9), messages, all_pieces(messages, most), draws)

    def walk(self, hearer, messages, pieces, draws):
        come = set()
        while hearer.next_index < len(pieces):
            before = hearer.next_index
            index = draws.randrange(max(0, before - hearer.window), min(len(pieces), before + hearer.window))
            come.add(index)
            after = min(k for k in range(len(pieces) + 1) if k not in come)
            last_ones = sum(piece[0] for piece in pieces[:after])
            given = [(9, message) for message in messages[:last_ones]]
            self.told(hearer, data(hearer, index, pieces[index]), [note(hearer, after, come)], (9, after, given))
        self.assertEqual(hearer.given, [(9, message) for message in messages])

    def test_messages_beyond_forty_letters_are_not_refused(self):
        hearer = opened(2)
        message = message_of(57)
        for index, piece in enumerate(pieces_of(message, 8)):
            hearer.hears(data(hearer, index, piece))
        self.assertEqual(hearer.given, [(1, message)])

    def test_a_window_beyond_the_bounds_is_not_refused(self):
        hearer = opened(9)
        self.told(hearer, ("data", 1, 8, (1, ())), [("note", 1, 0, (0,) * 8 + (1,))], (1, 0, []))

    def test_what_it_told_is_its_own(self):
        hearer = opened(2)
        answer = hearer.hears(data(hearer, 0, (1, (1,))))
        answer.clear()
        self.unchanged(hearer, data(hearer, 0, (1, (1,))), [note(hearer, 1)])


class FallTest(HearerTest):
    def test_falling_loses_all_but_what_was_given_out(self):
        for window in range(2, 8):
            hearer = opened(window, 4)
            hearer.hears(data(hearer, 0, (1, (9,))))
            hearer.hears(data(hearer, 1, (0, (1,))))
            for index in range(3, window + 2):
                hearer.hears(data(hearer, index, (0, (2,))))
            self.assertEqual(seen(hearer), (4, 2, [(4, (9,))]))
            hearer.fall()
            self.assertEqual(seen(hearer), (0, 0, [(4, (9,))]))
            # It heard of opening 4, but does not know it any more.
            self.unchanged(hearer, ("data", 4, 2 % (2 * window), (1, (3,))), [("who", 4)])
            self.told(hearer, ("hello", 3), [("welcome", 3)], (3, 0, [(4, (9,))]))
            self.told(hearer, ("hello", 4), [("welcome", 4)], (4, 0, [(4, (9,))]))
            for index in range(window + 2):
                hearer.hears(data(hearer, index, (0, (index,))))
            hearer.hears(data(hearer, window + 2, (1, ())))
            self.assertEqual(seen(hearer), (4, window + 3, [(4, (9,)), (4, tuple(range(window + 2)))]))

    def test_a_fall_between_the_pieces_of_a_message(self):
        pieces = pieces_of(message_of(12), 3)
        for place in range(1, len(pieces)):
            hearer = opened(2)
            for index in range(place):
                hearer.hears(data(hearer, index, pieces[index]))
            hearer.fall()
            self.unchanged(hearer, ("data", 1, place % 4, pieces[place]), [("who", 1)])
            hearer.hears(("hello", 2))
            for index, piece in enumerate(pieces):
                hearer.hears(data(hearer, index, piece))
            self.assertEqual(seen(hearer), (2, 4, [(2, message_of(12))]))

    def test_a_new_opening_between_the_pieces_of_a_message(self):
        pieces = pieces_of(message_of(12), 3)
        for place in range(1, len(pieces)):
            hearer = opened(2)
            for index in range(place):
                hearer.hears(data(hearer, index, pieces[index]))
            hearer.hears(("hello", 2))
            self.unchanged(hearer, ("data", 1, place % 4, pieces[place]), [])
            for index, piece in enumerate(pieces):
                hearer.hears(data(hearer, index, piece))
            self.assertEqual(seen(hearer), (2, 4, [(2, message_of(12))]))

    def test_runs_of_several_openings(self):
        hearer = Hearer(1)
        given = []
        for opening in (1, 2, 5, 6):
            hearer.hears(("hello", opening))
            for index in range(3):
                hearer.hears(data(hearer, index, (1, (index,))))
                given.append((opening, (index,)))
            self.assertEqual(seen(hearer), (opening, 3, given))
            hearer.fall()
            self.assertEqual(seen(hearer), (0, 0, given))

    def test_falls_of_one_that_has_nothing(self):
        hearer = Hearer(3)
        hearer.fall()
        hearer.fall()
        self.assertEqual(seen(hearer), (0, 0, []))
        self.told(hearer, ("hello", 1), [("welcome", 1)], (1, 0, []))


if __name__ == "__main__":
    unittest.main()

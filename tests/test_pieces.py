"""Point 1.1, with 0.3 and 0.4."""

import copy
import unittest

from sureroad.errors import NoMessage
from sureroad.pieces import joined, pieces_of


def message_of(length):
    return tuple((37 * k + 11) % 256 for k in range(length))


class PiecesOfTest(unittest.TestCase):
    def test_the_empty_message_has_one_piece_of_no_letters(self):
        for most in range(1, 9):
            self.assertEqual(pieces_of((), most), ((1, ()),))

    def test_one_letter(self):
        for letter in (0, 1, 255):
            for most in range(1, 9):
                self.assertEqual(pieces_of((letter,), most), ((1, (letter,)),))

    def test_a_multiple_of_most_has_no_empty_piece_behind(self):
        self.assertEqual(pieces_of((5, 6, 7, 8), 2), ((0, (5, 6)), (1, (7, 8))))
        self.assertEqual(pieces_of((5, 6, 7), 3), ((1, (5, 6, 7)),))
        self.assertEqual(pieces_of((5, 6, 7), 1), ((0, (5,)), (0, (6,)), (1, (7,))))

    def test_the_last_piece_has_what_is_left(self):
        self.assertEqual(pieces_of((5, 6, 7, 8, 9), 2), ((0, (5, 6)), (0, (7, 8)), (1, (9,))))
        self.assertEqual(pieces_of((5, 6, 7, 8), 3), ((0, (5, 6, 7)), (1, (8,))))
        self.assertEqual(pieces_of((5, 6), 8), ((1, (5, 6)),))

    def test_forty_letters(self):
        message = message_of(40)
        self.assertEqual(pieces_of(message, 1), tuple((0, (one,)) for one in message[:39]) + ((1, message[39:]),))
        self.assertEqual(
            pieces_of(message, 7),
            ((0, message[:7]), (0, message[7:14]), (0, message[14:21]), (0, message[21:28]),
             (0, message[28:35]), (1, message[35:])),
        )
        self.assertEqual(
            pieces_of(message, 8),
            ((0, message[:8]), (0, message[8:16]), (0, message[16:24]), (0, message[24:32]), (1, message[32:])),
        )

    def test_every_length_and_every_most(self):
        for length in range(41):
            message = message_of(length)
            for most in range(1, 9):
                with self.subTest(length=length, most=most):
                    self.check_cut(message, most, pieces_of(message, most))

    def check_cut(self, message, most, pieces):
        self.assertIs(type(pieces), tuple)
        self.assertEqual(len(pieces), max(1, -(-len(message) // most)))
        for place, piece in enumerate(pieces):
            self.assertIs(type(piece), tuple)
            last, letters = piece
            self.assertIs(type(last), int)
            self.assertEqual(last, 1 if place == len(pieces) - 1 else 0)
            self.assertIs(type(letters), tuple)
            if last == 0:
                self.assertEqual(len(letters), most)
            elif message:
                self.assertTrue(1 <= len(letters) <= most)
            else:
                self.assertEqual(letters, ())
        self.assertEqual(sum((letters for _, letters in pieces), ()), message)

    def test_nothing_is_refused_beyond_the_bounds(self):
        message = message_of(43)
        self.assertEqual(pieces_of(message, 9)[4], (1, message[36:]))
        self.assertEqual(pieces_of(message, 50), ((1, message),))
        self.assertEqual(pieces_of((300, -1), 1), ((0, (300,)), (1, (-1,))))
        self.assertEqual(pieces_of((), 0), ((1, ()),))
        self.assertEqual(pieces_of((1, 2), 0), ((0, (1,)), (1, (2,))))


class JoinedTest(unittest.TestCase):
    def refuses(self, pieces):
        with self.assertRaises(NoMessage):
            joined(pieces)

    def test_what_was_cut(self):
        for length in range(41):
            message = message_of(length)
            for most in range(1, 9):
                again = joined(pieces_of(message, most))
                self.assertIs(type(again), tuple)
                self.assertEqual(again, message)

    def test_rows_of_other_cuts(self):
        self.assertEqual(joined(((0, (1, 2, 3)), (0, (4,)), (1, (5, 6)))), (1, 2, 3, 4, 5, 6))
        self.assertEqual(joined(((0, ()), (0, (9,)), (0, ()), (1, ()))), (9,))
        self.assertEqual(joined(((0, ()), (1, ()))), ())
        self.assertEqual(joined(((1, ()),)), ())
        self.assertEqual(joined(((0, (0, 255)), (1, (255, 0)))), (0, 255, 255, 0))

    def test_every_cut_in_two(self):
        message = message_of(40)
        for place in range(41):
            self.assertEqual(joined(((0, message[:place]), (1, message[place:]))), message)

    def test_no_pieces(self):
        self.refuses(())

    def test_a_last_one_ahead(self):
        self.refuses(((1, (1,)), (1, (2,))))
        self.refuses(((0, (1,)), (1, (2,)), (0, (3,)), (1, (4,))))
        self.refuses(((1, ()), (0, ()), (1, ())))

    def test_none_at_the_end(self):
        self.refuses(((0, ()),))
        self.refuses(((0, (1,)), (0, (2,))))
        self.refuses(((1, (1,)), (0, (2,))))

    def test_every_row_of_lasts(self):
        for length in range(1, 7):
            for number in range(2 ** length):
                lasts = [number // 2 ** k % 2 for k in range(length)]
                pieces = tuple((last, (place,)) for place, last in enumerate(lasts))
                if lasts == [0] * (length - 1) + [1]:
                    self.assertEqual(joined(pieces), tuple(range(length)))
                else:
                    self.refuses(pieces)

    def test_a_last_that_is_neither_0_nor_1(self):
        self.refuses(((2, (1,)),))
        self.refuses(((2, (1,)), (1, (2,))))
        self.refuses(((0, (1,)), (-1, (2,))))

    def test_forty_letters_and_forty_one(self):
        message = message_of(41)
        self.assertEqual(joined(((1, message[:40]),)), message[:40])
        self.assertEqual(joined(((0, ()), (0, message[:40]), (1, ()))), message[:40])
        self.refuses(((1, message),))
        self.refuses(((0, message[:40]), (1, message[40:])))
        self.refuses(((0, message), (1, ())))
        for most in range(1, 9):
            self.refuses(pieces_of(message, most))
        self.refuses(((0, message[:40]), (0, ())))
        self.refuses(((0, message),))

    def test_what_is_handed_in_is_not_changed(self):
        rows = [((0, (1, 2)), (1, (3,))), ((1, ()), (1, ())), (), ((1, message_of(41)),)]
        kept = copy.deepcopy(rows)
        for row in rows:
            try:
                joined(row)
            except NoMessage:
                pass
        self.assertEqual(rows, kept)
        message = message_of(20)
        pieces_of(message, 3)
        self.assertEqual(message, message_of(20))


if __name__ == "__main__":
    unittest.main()

"""Points 2.1 and 2.2, with 0.2 (e) and 0.3."""

import copy
import itertools
import unittest

from sureroad.errors import NoCard, NoStrip
from sureroad.strips import read, written

# The cells were worked out by hand from 2.2.
BY_HAND = (
    (("hello", 0), (0, 0, 0, 0, 0)),
    (("hello", 65535), (0, 255, 255, 254, 243)),
    (("hello", 258), (0, 1, 2, 3, 20)),
    (("welcome", 0), (1, 0, 0, 1, 5)),
    (("welcome", 65535), (1, 255, 255, 255, 248)),
    (("who", 0), (2, 0, 0, 2, 10)),
    (("who", 65535), (2, 255, 255, 0, 253)),
    (("data", 0, 0, (0, ())), (3, 0, 0, 0, 0, 3, 21)),
    (("data", 258, 5, (0, (7,))), (3, 1, 2, 5, 0, 7, 18, 199)),
    (("data", 65535, 13, (1, (255,) * 8)), (3, 255, 255, 13, 1) + (255,) * 8 + (7, 77)),
    (("note", 0, 0, ()), (4, 0, 0, 0, 4, 24)),
    (("note", 300, 9, (0, 1)), (4, 1, 44, 9, 0, 1, 59, 81)),
    (("note", 65535, 13, (1,) * 7), (4, 255, 255, 13) + (1,) * 7 + (22, 115)),
)

OPENINGS = (0, 1, 2, 255, 256, 257, 511, 512, 32767, 32768, 65279, 65280, 65534, 65535)

NO_CARDS_NOR_STRIPS = (
    None, True, False, 0, 1, -1, 10 ** 40, "", "hello", "01234", "\0\0\0\0\0", [], [0, 0, 0, 0, 0], ["hello", 0], (),
    (None,), ((),), ([],), ("hello",), (0,), (None,) * 2, (None,) * 4, (None,) * 5, (True,) * 5, ("",) * 4,
    ([],) * 4, ([],) * 5, ((),) * 2, ((),) * 4, ((),) * 5, ("0", "0", "0", "0", "0"), [("hello", 0)], (("hello", 0),),
    ((0, 0, 0, 0, 0),),
)


def checked(cells):
    """The cells with the two checks of 2.2 behind them, whatever the cells are."""
    first = sum(cells) % 256
    ahead = list(cells) + [first]
    second = 0
    for k in range(len(ahead)):
        second += (k + 1) * ahead[k]
    return tuple(ahead) + (second % 256,)


def deep(depth, make):
    thing = make([])
    for _ in range(depth):
        thing = make([thing])
    return thing


def all_bits():
    for length in range(8):
        yield from itertools.product((0, 1), repeat=length)


def put(row, place, thing):
    return row[:place] + (thing,) + row[place + 1:]


class StripsTest(unittest.TestCase):
    def no_card(self, thing):
        try:
            strip = written(thing)
        except NoCard:
            return
        self.fail(f"{thing!r} was written as {strip!r}")

    def no_strip(self, thing):
        try:
            card = read(thing)
        except NoStrip:
            return
        self.fail(f"{thing!r} was read as {card!r}")


class WrittenTest(StripsTest):
    def round(self, card, cells):
        strip = written(card)
        self.assertEqual(strip, checked(cells))
        self.assertEqual(read(strip), card)

    def test_the_cells_by_hand(self):
        for card, strip in BY_HAND:
            with self.subTest(card=card):
                self.assertEqual(written(card), strip)
                self.assertEqual(read(strip), card)

    def test_kinds_of_what_comes_back(self):
        for card, strip in BY_HAND:
            made = written(card)
            self.assertIs(type(made), tuple)
            self.assertEqual({type(cell) for cell in made}, {int})
            self.assertIs(type(read(strip)), tuple)
            self.assertEqual([type(part) for part in read(strip)], [type(part) for part in card])

    def test_every_opening(self):
        for opening in range(65536):
            self.round(("welcome", opening), (1, opening // 256, opening % 256))

    def test_short_cards(self):
        for cell, kind in enumerate(("hello", "welcome", "who")):
            for opening in OPENINGS:
                self.round((kind, opening), (cell, opening // 256, opening % 256))

    def test_data_of_every_number_last_and_length(self):
        for opening in OPENINGS:
            for number, last, length in itertools.product(range(14), (0, 1), range(9)):
                letters = tuple((91 * k + number) % 256 for k in range(length))
                cells = (3, opening // 256, opening % 256, number, last) + letters
                self.round(("data", opening, number, (last, letters)), cells)

    def test_data_of_every_letter_at_every_place(self):
        for letter, place in itertools.product(range(256), range(8)):
            letters = put((0,) * 8, place, letter)
            self.round(("data", 7, 3, (1, letters)), (3, 0, 7, 3, 1) + letters)

    def test_notes_of_every_number_and_all_bits(self):
        for opening in (0, 300, 65535):
            for number, bits in itertools.product(range(14), all_bits()):
                self.round(("note", opening, number, bits), (4, opening // 256, opening % 256, number) + bits)

    def test_what_is_handed_in_is_not_changed(self):
        cards = [card for card, _ in BY_HAND] + [["hello", 0], ("data", 0, 0, [0, [1, 2]]), ("note", 0, 0, [1, 0])]
        strips = [strip for _, strip in BY_HAND] + [[0, 0, 0, 0, 0], (0, [0], 0, 0, 0)]
        kept = copy.deepcopy((cards, strips))
        for act, things, error in ((written, cards, NoCard), (read, strips, NoStrip)):
            for thing in things:
                try:
                    act(thing)
                except error:
                    pass
        self.assertEqual((cards, strips), kept)


class WrongCardsTest(StripsTest):
    def test_things_of_other_kinds(self):
        for thing in NO_CARDS_NOR_STRIPS:
            self.no_card(thing)

    def test_strips_are_no_cards(self):
        for _, strip in BY_HAND:
            self.no_card(strip)

    def test_deep_things(self):
        for make in (tuple, list):
            thing = deep(5000, make)
            self.no_card(thing)
            self.no_card((thing, 0))
            self.no_card(("hello", thing))
            self.no_card(("data", 0, 0, thing))
            self.no_card(("data", 0, 0, (0, thing)))
            self.no_card(("note", 0, 0, thing))

    def test_other_kinds_of_card(self):
        for kind in ("", "Hello", "hello ", "hell", "bye", "h", 0, 3, None, True, ["hello"], ("hello",), [], ()):
            self.no_card((kind, 0))
            self.no_card((kind, 0, 0, ()))
            self.no_card((kind, 0, 0, (0, ())))

    def test_a_kind_with_the_parts_of_another(self):
        for kind in ("hello", "welcome", "who"):
            self.no_card((kind, 0, 0, ()))
            self.no_card((kind, 0, 0, (0, ())))
        self.no_card(("data", 0))
        self.no_card(("note", 0))
        self.no_card(("data", 0, 0, ()))
        self.no_card(("data", 0, 0, (0, 1, 1)))
        self.no_card(("note", 0, 0, (0, ())))

    def test_other_lengths(self):
        for card, _ in BY_HAND:
            self.no_card(card + (0,))
            self.no_card(card + (None,))
            self.no_card(card + ((),))
            for place in range(len(card)):
                self.no_card(card[:place])
                self.no_card(card[:place] + card[place + 1:])

    def test_openings(self):
        for opening in (-1, 65536, -65536, 10 ** 40, True, False, None, "0", "", (0,), (), [0]):
            for card, _ in BY_HAND:
                self.no_card(put(card, 1, opening))

    def test_numbers(self):
        for number in (-1, 14, 256, True, False, None, "0", (0,), [0]):
            for card, _ in BY_HAND:
                if len(card) == 4:
                    self.no_card(put(card, 2, number))

    def test_pieces(self):
        for last in (-1, 2, True, False, None, "0", (0,), [0]):
            self.no_card(("data", 0, 0, (last, ())))
            self.no_card(("data", 0, 0, (last, (1, 2))))
        for letters in ((0,) * 9, (0,) * 40, [], [0], None, 0, "", "ab"):
            self.no_card(("data", 0, 0, (0, letters)))
        for piece in (None, 0, "", "ab", (), (0,), (0, (), ()), (0, (), 0), [0, ()], ((), 0), ((0, ()),)):
            self.no_card(("data", 0, 0, piece))

    def test_letters(self):
        for letter in (-1, 256, True, False, None, "a", (0,), [0]):
            for length in range(1, 9):
                for place in range(length):
                    self.no_card(("data", 0, 0, (1, put((0,) * length, place, letter))))

    def test_bits(self):
        for bits in ((0,) * 8, (1,) * 8, [], [0, 1], None, 0, "", "01"):
            self.no_card(("note", 0, 0, bits))
        for bit in (-1, 2, True, False, None, "0", (0,), [0]):
            for length in range(1, 8):
                for place in range(length):
                    self.no_card(("note", 0, 0, put((1,) * length, place, bit)))

    def test_lists_in_the_place_of_tuples(self):
        for card, _ in BY_HAND:
            self.no_card(list(card))


class WrongStripsTest(StripsTest):
    def test_things_of_other_kinds(self):
        for thing in NO_CARDS_NOR_STRIPS:
            self.no_strip(thing)

    def test_cards_are_no_strips(self):
        for card, _ in BY_HAND:
            self.no_strip(card)

    def test_deep_things(self):
        for make in (tuple, list):
            thing = deep(5000, make)
            self.no_strip(thing)
            for place in range(5):
                self.no_strip(put((0, 0, 0, 0, 0), place, thing))

    def test_lists_in_the_place_of_tuples(self):
        for _, strip in BY_HAND:
            self.no_strip(list(strip))

    def test_truths_in_the_place_of_cells(self):
        for _, strip in BY_HAND:
            for place, cell in enumerate(strip):
                if cell in (0, 1):
                    self.no_strip(put(strip, place, bool(cell)))

    def test_things_in_the_place_of_cells(self):
        for _, strip in BY_HAND:
            for place, cell in enumerate(strip):
                for thing in (cell + 256, cell - 256, 10 ** 40, None, str(cell), "", (cell,), [cell], (), []):
                    self.no_strip(put(strip, place, thing))

    def test_other_kinds_with_right_checks(self):
        for kind in range(5, 256):
            for behind in ((), (0,), (0, 0), (0, 0, 0)):
                self.no_strip(checked((kind, 0, 0) + behind))

    def test_too_few_cells_with_right_checks(self):
        for kind in range(6):
            for length in range(3):
                self.no_strip(checked((kind, 0, 0)[:length]))
        self.no_strip(checked((3, 0, 0)))
        self.no_strip(checked((3, 0, 0, 0)))
        self.no_strip(checked((4, 0, 0)))

    def test_too_many_cells_with_right_checks(self):
        for kind in range(3):
            for count in range(1, 12):
                self.no_strip(checked((kind, 0, 0) + (0,) * count))
        self.no_strip(checked((3, 0, 0, 0, 0) + (7,) * 9))
        self.no_strip(checked((3, 0, 0, 0, 0) + (0,) * 300))
        self.no_strip(checked((4, 0, 0, 0) + (1,) * 8))
        self.no_strip(checked((4, 0, 0, 0) + (0,) * 300))

    def test_cells_beyond_the_card_with_right_checks(self):
        for cell in range(14, 256):
            self.no_strip(checked((3, 0, 0, cell, 0)))
            self.no_strip(checked((4, 0, 0, cell)))
        for cell in range(2, 256):
            self.no_strip(checked((3, 0, 0, 0, cell)))
            self.no_strip(checked((3, 0, 0, 0, cell, 1)))
            for place in range(4, 11):
                self.no_strip(checked(put((4, 0, 0, 0) + (1,) * 7, place, cell)))

    def test_cells_beyond_a_cell_with_right_checks(self):
        for place in range(5):
            for cell in (-1, 256):
                self.no_strip(checked(put((3, 0, 0, 0, 1, 9), place, cell)))


class SpoiltStripsTest(StripsTest):
    def test_each_cell_changed_to_each_other(self):
        for _, strip in BY_HAND:
            for place, cell in itertools.product(range(len(strip)), range(256)):
                if cell != strip[place]:
                    self.no_strip(put(strip, place, cell))

    def test_unlike_neighbours_changed_about(self):
        tried = 0
        for _, strip in BY_HAND:
            tried += self.try_neighbours(strip)
        self.assertGreater(tried, 30)

    def test_unlike_neighbours_of_many_strips(self):
        for opening in range(0, 65536, 7):
            self.try_neighbours(written(("hello", opening)))
        for letters in itertools.product((0, 1, 127, 128, 255), repeat=4):
            self.try_neighbours(written(("data", 513, 6, (1, letters))))
        for bits in all_bits():
            self.try_neighbours(written(("note", 128, 2, bits)))

    def test_last_cell_and_first_check_half_a_round_apart(self):
        # Here the first check fits again when both are changed about: the second one alone tells.
        strip = written(("data", 125, 0, (0, (5,))))
        self.assertEqual((strip[-2] - strip[-3]) % 256, 128)
        self.no_strip(strip[:-3] + (strip[-2], strip[-3], strip[-1]))

    def try_neighbours(self, strip):
        tried = 0
        for place in range(len(strip) - 1):
            if strip[place] != strip[place + 1]:
                tried += 1
                self.no_strip(strip[:place] + (strip[place + 1], strip[place]) + strip[place + 2:])
        return tried

    def test_cells_left_out(self):
        for _, strip in BY_HAND:
            for place in range(len(strip)):
                self.no_strip(strip[:place] + strip[place + 1:])
                self.no_strip(strip[:place])
                self.no_strip(strip[place + 1:])

    def test_cells_doubled(self):
        for _, strip in BY_HAND:
            for place in range(len(strip)):
                self.no_strip(strip[:place + 1] + strip[place:])
            self.no_strip(strip + strip)

    def test_cells_put_behind_and_ahead(self):
        for _, strip in BY_HAND:
            for cell in range(256):
                self.only_if_written(strip + (cell,))
                self.only_if_written((cell,) + strip)
        for cell in range(256):
            self.no_strip((0, 1, 2, 3, 20, cell))
            self.no_strip((3, 1, 2, 5, 0, 7, 18, 199, cell))
            self.no_strip((4, 1, 44, 9, 0, 1, 59, 81, cell))

    def test_other_cells_are_read_only_if_written_so(self):
        for cells in itertools.product((0, 1, 2, 3, 4, 5, 255), repeat=5):
            self.only_if_written(cells)
        for cells in itertools.product((0, 1, 3, 4, 8, 21), repeat=4):
            self.only_if_written((3, 0, 0) + cells)
            self.only_if_written((4, 0, 0) + cells)

    def only_if_written(self, cells):
        if cells == checked(cells[:-2]) and self.tells_a_card(cells[0], cells[3:-2]):
            self.assertEqual(written(read(cells)), cells)
        else:
            self.no_strip(cells)

    def tells_a_card(self, kind, behind):
        if kind < 3:
            return behind == ()
        if kind == 3:
            return 2 <= len(behind) <= 10 and behind[0] <= 13 and behind[1] <= 1
        return kind == 4 and 1 <= len(behind) <= 8 and behind[0] <= 13 and max((0,) + behind[1:]) <= 1


if __name__ == "__main__":
    unittest.main()

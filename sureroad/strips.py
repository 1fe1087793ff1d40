"""Cards, and the strips of cells that they are written as."""

from sureroad.errors import NoCard, NoStrip

# The place of a kind is its cell on the strip.
KINDS = ("hello", "welcome", "who", "data", "note")
SHORT_KINDS = ("hello", "welcome", "who")

TOP_OPENING = 65535
TOP_NUMBER = 13
TOP_CELL = 255
MOST_PIECE_LETTERS = 8
MOST_BITS = 7

# The kind and the two cells of the opening, and behind all the two checks.
HEAD_CELLS = 3
CHECK_CELLS = 2


def is_whole(thing, top):
    # True and False are ints to Python, but no whole numbers here.
    return isinstance(thing, int) and not isinstance(thing, bool) and 0 <= thing <= top


def is_row(thing, top):
    return isinstance(thing, tuple) and all([is_whole(part, top) for part in thing])


def is_piece(thing):
    if not isinstance(thing, tuple) or len(thing) != 2:
        return False
    return is_whole(thing[0], 1) and is_row(thing[1], TOP_CELL) and len(thing[1]) <= MOST_PIECE_LETTERS


def are_bits(thing):
    return is_row(thing, 1) and len(thing) <= MOST_BITS


def is_card(thing):
    if not isinstance(thing, tuple) or len(thing) < 2 or not is_whole(thing[1], TOP_OPENING):
        return False
    if thing[0] in SHORT_KINDS:
        return len(thing) == 2
    if len(thing) != 4 or not is_whole(thing[2], TOP_NUMBER):
        return False
    if thing[0] == "data":
        return is_piece(thing[3])
    return thing[0] == "note" and are_bits(thing[3])


def cells_of(card):
    head = (KINDS.index(card[0]), card[1] // 256, card[1] % 256)
    if card[0] == "data":
        return head + (card[2], card[3][0]) + card[3][1]
    if card[0] == "note":
        return head + (card[2],) + card[3]
    return head


def with_checks(cells):
    summed = cells + (sum(cells) % 256,)
    weighed = sum([place * cell for place, cell in enumerate(summed, start=1)])
    return summed + (weighed % 256,)


def written(card):
    if not is_card(card):
        raise NoCard("this is no card")
    return with_checks(cells_of(card))


def card_from(cells):
    # Too few or too many cells make a tuple of another length than a card's, which is_card tells apart.
    kind = KINDS[cells[0]]
    opening = cells[1] * 256 + cells[2]
    rest = cells[HEAD_CELLS:]
    if kind == "data" and len(rest) >= 2:
        return (kind, opening, rest[0], (rest[1], rest[2:]))
    if kind == "note" and len(rest) >= 1:
        return (kind, opening, rest[0], rest[1:])
    return (kind, opening) + rest


def read(strip):
    if not is_row(strip, TOP_CELL) or len(strip) < HEAD_CELLS + CHECK_CELLS or strip[0] >= len(KINDS):
        raise NoStrip("these are not the cells of a strip")
    cells = strip[:-CHECK_CELLS]
    if strip != with_checks(cells):
        raise NoStrip("the checks do not fit the cells")
    card = card_from(cells)
    if not is_card(card):
        raise NoStrip("the cells tell no card")
    return card

"""Messages cut into pieces, and pieces joined to messages again."""

from sureroad.errors import NoMessage

MOST_MESSAGE_LETTERS = 40


def pieces_of(message, most):
    # A size below 1 would never use the letters up.
    size = max(most, 1)
    pieces = []
    rest = message
    while len(rest) > size:
        pieces.append((0, rest[:size]))
        rest = rest[size:]
    pieces.append((1, rest))
    return tuple(pieces)


def ends_once(pieces):
    lasts = [piece[0] for piece in pieces]
    return len(lasts) > 0 and lasts == [0] * (len(lasts) - 1) + [1]


def letters_of(pieces):
    letters = []
    for piece in pieces:
        letters.extend(piece[1])
    return tuple(letters)


def joined(pieces):
    if not ends_once(pieces):
        raise NoMessage("not a row of pieces of which just the last one has last 1")
    message = letters_of(pieces)
    if len(message) > MOST_MESSAGE_LETTERS:
        raise NoMessage("the pieces have more letters than a message may have")
    return message

"""Indexes of pieces, and the few numbers that go round for them."""


def goes_round(number, window):
    return 0 <= number < 2 * window


def number_of(index, window):
    return index % (2 * window)


def index_near(number, low, window):
    return low + (number - low) % (2 * window)

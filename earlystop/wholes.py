"""Whole numbers: which things they are, what divides two of them, how they are written and read."""

FIGURES = "0123456789"
MOST_FIGURES = 4000
PIECE_FIGURES = 64


def is_whole(thing):
    return isinstance(thing, int) and not isinstance(thing, bool)


def common_divisor(number, above_nought):
    # The second one is above nought, so no rest is ever below it and the answer is above nought too.
    divided = number
    divisor = above_nought
    while divisor != 0:
        rest = divided % divisor
        divided = divisor
        divisor = rest
    return divided


def shown_whole(number):
    # By pieces, as Python's str refuses numbers that are somewhat longer than the four thousand figures.
    piece = 10 ** 64
    rest = abs(number)
    pieces = []
    while rest >= piece:
        pieces.append(str(rest % piece).zfill(PIECE_FIGURES))
        rest = rest // piece
    pieces.append(str(rest))
    if number < 0:
        pieces.append("-")
    return "".join(reversed(pieces))


def are_figures(text):
    return 1 <= len(text) <= MOST_FIGURES and all([sign in FIGURES for sign in text])


def read_whole(text):
    figures = text[1:] if text.startswith("-") else text
    if not are_figures(figures):
        return None
    if figures.startswith("0") and text != "0":
        return None
    return int(text)

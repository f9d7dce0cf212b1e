"""Names of faces, of ways, of rules."""

LETTERS = "abcdefghijklmnopqrstuvwxyz"
MOST_LETTERS = 8
WORDS_OF_LINES = ("faces", "way", "on", "say", "rule", "none", "price", "worth")


def is_name(thing):
    if not isinstance(thing, str) or not 1 <= len(thing) <= MOST_LETTERS:
        return False
    return all([sign in LETTERS for sign in thing]) and thing not in WORDS_OF_LINES

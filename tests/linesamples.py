"""Lines of rules and papers for the tests: what they are read as, by the document's words, and lines gone wrong."""

import math
import re

from earlystop.errors import NoLines
from cases import Case

NUMBER = "(?:0|[1-9][0-9]{0,3999})"
FRACTION = f"-?{NUMBER}(?:/{NUMBER})?"
FRACTION_PARTS = re.compile(f"(-?)({NUMBER})(?:/({NUMBER}))?")


def asked_fraction(word):
    """The fraction that a word writes, None where it writes none."""
    found = FRACTION_PARTS.fullmatch(word)
    if not found or word == "-0" or word.startswith("-0/"):
        return None
    lower = int(found[3]) if found[3] else 1
    if found[3] and (lower < 2 or math.gcd(int(found[2]), lower) != 1):
        return None
    return (-int(found[2]) if found[1] else int(found[2]), lower)


def asked_words(line, form):
    """The line's words behind a form like "on # # say / / /": counts and fractions, None where it hasn't that form."""
    words, due = line.split(" "), form.split(" ")
    if len(words) != len(due):
        return None
    found = []
    for word, kind in zip(words, due):
        if kind == "#":
            found.append(int(word) if re.fullmatch(NUMBER, word) else None)
        elif kind == "/":
            found.append(asked_fraction(word))
        elif word != kind:
            return None
    return None if None in found else found


def asked_entry(line, faces, ways):
    found = asked_words(line, " ".join(["on"] + ["#"] * faces + ["say"] + ["/"] * (1 + ways)))
    return found and (tuple(found[:faces]), tuple(found[faces:]))


def asked_prices(line, faces, ways):
    found = asked_words(line, " ".join(["price"] + ["/"] * ways))
    return found and tuple(found)


def asked_worth(line, faces, ways):
    found = asked_words(line, " ".join(["worth"] + ["#"] * faces + ["/"]))
    return found and (tuple(found[:faces]), found[faces])


def asked_rule(lines):
    """The tuple, or the number of the line that is refused."""
    head = re.fullmatch("rule ([2-4]) ([2-4])", lines[0]) if lines else None
    if not head:
        return 0
    sizes = int(head[1]), int(head[2])
    entries = [asked_entry(line, *sizes) for line in lines[1:]]
    return 1 + entries.index(None) if None in entries else tuple(entries)


def asked_paper(lines):
    head = re.fullmatch("paper (rule|none) ([2-4]) ([2-4])", lines[0]) if lines else None
    if not head:
        return 0
    sizes = int(head[2]), int(head[3])
    line = 1
    entries = []
    if head[1] == "rule":
        while line < len(lines) and asked_entry(lines[line], *sizes):
            entries.append(asked_entry(lines[line], *sizes))
            line += 1
    prices = asked_prices(lines[line], *sizes) if line < len(lines) else None
    if prices is None:
        return line
    worths = [asked_worth(one, *sizes) for one in lines[line + 1:]]
    if None in worths:
        return line + 1 + worths.index(None)
    return ("rule", tuple(entries), prices, tuple(worths)) if head[1] == "rule" else ("none", prices, tuple(worths))


ODD_WORDS = [
    "", "-", "/", "x", "on", "say", "rule", "paper", "none", "price", "worth", "faces", "way", "0", "1", "2", "3",
    "4", "5", "-1", "+1", "00", "01", "1/2", "-1/2", "2/4", "1/1", "0/1", "0/2", "1/0", "-0", "1/-2", "1/02", "01/2",
    "1/2/3", "1 ", "1.0", "1e3", "1_0", "0x1", "ON", "On", "9" * 4000, "9" * 4001, "1/" + "9" * 4000,
    "1/" + "9" * 4001, "-" + "7" * 4000,
]


def gone_wrong(rng, lines):
    """The lines with one thing changed: a line or a word left out, doubled, put elsewhere, put in, changed."""
    lines = list(lines)
    line = rng.randrange(len(lines)) if lines else 0
    kind = rng.randrange(9)
    if not lines or kind == 0:
        odd_lines = ["", " ", "on", "rule 2 2", "paper none 2 2", "price 1 1", "worth"]
        lines.insert(rng.randint(0, len(lines)), rng.choice(odd_lines))
    elif kind == 1:
        lines.pop(line)
    elif kind == 2:
        lines.insert(line, lines[line])
    elif kind == 3:
        lines.insert(rng.randrange(len(lines)), lines.pop(line))
    else:
        words = lines[line].split(" ")
        place = rng.randrange(len(words))
        if kind == 4:
            words.pop(place)
        elif kind == 5:
            words.insert(place, words[place])
        elif kind == 6:
            words.insert(rng.randint(0, len(words)), rng.choice(ODD_WORDS))
        elif kind == 7:
            words.insert(rng.randrange(len(words)), words.pop(place))
        else:
            words[place] = rng.choice(ODD_WORDS)
        lines[line] = " ".join(words)
    return lines


def long_fraction(rng, figures):
    """A fraction of two numbers of just so many figures."""
    while True:
        upper = rng.randint(10 ** (figures - 1), 10 ** figures - 1)
        lower = rng.randint(10 ** (figures - 1), 10 ** figures - 1)
        if math.gcd(upper, lower) == 1:
            return (upper, lower)


class Reads(Case):
    """For what is read of lines by the call that a class under this one names as its read."""

    def assertReads(self, lines, asked):
        """Asked is the tuple, or the number of the line that is refused."""
        with self.subTest(repr(lines)[:300]):
            if isinstance(asked, int):
                self.assertRefused(NoLines, {"line": asked}, self.read, lines)
            else:
                self.assertTold(self.read(lines), asked)

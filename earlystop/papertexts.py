"""Papers as lines: written, and read line by line."""

from earlystop.errors import NoLines
from earlystop.linewords import read_counts, read_fractions, shown_counts, shown_fractions
from earlystop.ruletexts import entries_behind, read_head, shown_entries, shown_head

PAPER_WORD = "paper"
PRICE_WORD = "price"
WORTH_WORD = "worth"


def shown_paper(paper):
    prices = paper[-2]
    worths = paper[-1]
    lines = [shown_head([PAPER_WORD, paper[0]], len(worths[0][0]), len(prices))]
    if paper[0] == "rule":
        lines.extend(shown_entries(paper[1]))
    lines.append(" ".join([PRICE_WORD] + shown_fractions(prices)))
    for counts, worth in worths:
        lines.append(" ".join([WORTH_WORD] + shown_counts(counts) + shown_fractions([worth])))
    return lines


def read_paper(lines):
    if has_rule(lines):
        sizes = read_head(lines, [PAPER_WORD, "rule"])
        entries = entries_behind(lines, 1, sizes)
        return ("rule", entries) + read_rest(lines, 1 + len(entries), sizes)
    sizes = read_head(lines, [PAPER_WORD, "none"])
    return ("none",) + read_rest(lines, 1, sizes)


def has_rule(lines):
    return len(lines) > 0 and lines[0].split(" ")[:2] == [PAPER_WORD, "rule"]


def read_rest(lines, line, sizes):
    """The prices, due in that line, and the worths behind them."""
    prices = read_prices(lines[line].split(" "), sizes) if line < len(lines) else None
    if prices is None:
        raise NoLines(line)
    worths = []
    for place in range(line + 1, len(lines)):
        worth = read_worth(lines[place].split(" "), sizes)
        if worth is None:
            raise NoLines(place)
        worths.append(worth)
    return (prices, tuple(worths))


def read_prices(words, sizes):
    return read_fractions(words[1:], sizes[1]) if words[0] == PRICE_WORD else None


def read_worth(words, sizes):
    place = 1 + sizes[0]
    counts = read_counts(words[1:place], sizes[0])
    worth = read_fractions(words[place:], 1)
    if words[0] != WORTH_WORD or counts is None or worth is None:
        return None
    return (counts, worth[0])

"""Rules as lines: written, and read line by line."""

from earlystop.errors import NoLines
from earlystop.linewords import read_counts, read_fractions, shown_counts, shown_fractions
from earlystop.rules import rule_faces, rule_ways
from earlystop.trials import LEAST_NAMES, MOST_NAMES

RULE_WORD = "rule"
ENTRY_WORD = "on"
SAYS_WORD = "say"


def shown_rule(rule):
    return [shown_head([RULE_WORD], rule_faces(rule), rule_ways(rule))] + shown_entries(rule)


def shown_head(words, faces, ways):
    return " ".join(words + shown_counts([faces, ways]))


def shown_entries(rule):
    lines = []
    for counts, says in rule:
        lines.append(" ".join([ENTRY_WORD] + shown_counts(counts) + [SAYS_WORD] + shown_fractions(says)))
    return lines


def read_rule(lines):
    sizes = read_head(lines, [RULE_WORD])
    entries = entries_behind(lines, 1, sizes)
    if 1 + len(entries) < len(lines):
        raise NoLines(1 + len(entries))
    return entries


def read_head(lines, words):
    """How many faces and ways the first line tells behind these words."""
    if len(lines) == 0:
        raise NoLines(0)
    found = lines[0].split(" ")
    sizes = read_counts(found[len(words):], 2)
    if found[:len(words)] != words or sizes is None or not all([LEAST_NAMES <= one <= MOST_NAMES for one in sizes]):
        raise NoLines(0)
    return sizes


def entries_behind(lines, line, sizes):
    """The entries that stand from that line on, up to the first line that writes none."""
    found = []
    for text in lines[line:]:
        entry = read_entry(text.split(" "), sizes)
        if entry is None:
            break
        found.append(entry)
    return tuple(found)


def read_entry(words, sizes):
    place = 1 + sizes[0]
    counts = read_counts(words[1:place], sizes[0])
    says = read_fractions(words[place + 1:], 1 + sizes[1])
    if words[0] != ENTRY_WORD or counts is None or says is None or words[place] != SAYS_WORD:
        return None
    return (counts, says)

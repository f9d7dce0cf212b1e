"""Masters: columns with shares, by which in each row what they have there comes to the row's end.

As many columns stand in a master as it has rows; one that enters puts one of them out. The numbers are whole, in parts
of one number: exchanging keeps them so, and no divisor is looked for.
"""


class Master:
    def __init__(self, ends, own):
        """Ends are from nought on; own are the names of the columns that stand there at first, a one in each row."""
        # A row: the share of what stands there, then for each row how much of that makes a column of a one there.
        self.rows = [[end] + one_among(len(ends), place) for place, end in enumerate(ends)]
        self.parts = 1
        self.standing = list(own)

    def enter(self, column, thing):
        steps = [product(row[1:], column) for row in self.rows]
        out = leaving(self.rows, steps)
        self.rows = exchanged(self.rows, steps, out, self.parts)
        self.parts = steps[out]
        self.standing[out] = thing

    def rates(self, costs):
        """For each row what a column of a one in it costs, made of the standing ones, which cost so much."""
        many = len(self.rows)
        return [product([row[1 + place] for row in self.rows], costs) for place in range(many)]


def one_among(many, place):
    return [1 if k == place else 0 for k in range(many)]


def product(some, others):
    return sum([one * other for one, other in zip(some, others)])


def leaving(rows, steps):
    """The row whose share is used up first as the share of the entering column grows."""
    out = None
    for place, step in enumerate(steps):
        if step > 0 and (out is None or is_sooner(rows, steps, place, out)):
            out = place
    return out


def is_sooner(rows, steps, place, out):
    # Shares that are used up at once are told apart by the numbers behind them, which are never all in proportion:
    # so what stands there never comes a second time, and exchanging ends.
    return [one * steps[out] for one in rows[place]] < [one * steps[place] for one in rows[out]]


def exchanged(rows, steps, out, parts):
    found = []
    for row, step in zip(rows, steps):
        found.append([(one * steps[out] - other * step) // parts for one, other in zip(row, rows[out])])
    found[out] = list(rows[out])
    return found

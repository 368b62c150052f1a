"""Tableaus: the rows of a task, exchanged step by step till they show its answer."""

from signbook.fractions import fraction


class Tableau:
    """A task, solved for some of its unknowns, where the others are nought.

    The unknowns 0 to wide - 1 are the xs; wide + i is what row i leaves of its bound. Those across
    are nought, those down are told by the rows: each row stands for its unknown, plus the sum of
    its entries times the unknowns across, being its last entry. The row behind these stands for
    the worth likewise. All entries are whole numbers, to be divided by the scale, which is 1 or
    more: they are determinants of squares of the task with the unit table beside it, and the scale
    is one, too. So where the task's table is unimodular the scale stays 1.
    """

    def __init__(self, table, bounds, gains):
        self.wide = len(gains)
        self.across = list(range(len(gains)))
        self.down = [len(gains) + at for at in range(len(bounds))]
        self.rows = [[*row, bound] for row, bound in zip(table, bounds)]
        self.rows.append([-gain for gain in gains] + [0])
        self.scale = 1

    def exchange(self, row, column):
        """Exchange the unknown that a row tells with one across; their entry is not nought."""
        lead = self.rows[row]
        sign = 1 if lead[column] > 0 else -1
        told = []
        for at, old in enumerate(self.rows):
            new = list(lead) if at == row else self.cleared(old, lead, column)
            new[column] = self.scale if at == row else -old[column]
            # The sign keeps the scale, which the lead's entry is from here on, above nought.
            told.append([sign * entry for entry in new])
        self.rows = told
        self.scale = sign * lead[column]
        self.across[column], self.down[row] = self.down[row], self.across[column]

    def cleared(self, old, lead, column):
        """Tell another row with the lead's unknown taken out of it."""
        p = lead[column]
        q = old[column]
        return [(entry * p - q * top) // self.scale for entry, top in zip(old, lead)]

    def settle(self):
        """Exchange till no unknown is below nought: tell None, or the row by which some always is."""
        # Always taking the first unknowns that will do keeps the steps from going in a circle.
        while True:
            short = [at for at in range(len(self.down)) if self.rows[at][-1] < 0]
            if not short:
                return None
            row = min(short, key=lambda at: self.down[at])
            ways = [at for at in range(len(self.across)) if self.rows[row][at] < 0]
            if not ways:
                return row
            self.exchange(row, min(ways, key=lambda at: self.across[at]))

    def climb(self):
        """Exchange, once settled, till the worth is the most: tell None, or the column by which it has no end."""
        while True:
            ways = [at for at in range(len(self.across)) if self.rows[-1][at] < 0]
            if not ways:
                return None
            column = min(ways, key=lambda at: self.across[at])
            row = self.tightest(column)
            if row is None:
                return column
            self.exchange(row, column)

    def tightest(self, column):
        """Tell the row that first ends a way along a column's unknown, or None where none does."""
        found = None
        for at in range(len(self.down)):
            if self.rows[at][column] > 0 and (found is None or self.is_tighter(at, found, column)):
                found = at
        return found

    def is_tighter(self, one, other, column):
        """Tell whether one row ends a way ahead of another, or with it and has the first unknown."""
        one_end = self.rows[one][-1] * self.rows[other][column]
        other_end = self.rows[other][-1] * self.rows[one][column]
        return (one_end, self.down[one]) < (other_end, self.down[other])

    def value(self):
        """Tell the worth where the unknowns across are nought."""
        return fraction(self.rows[-1][-1], self.scale)

    def xs(self):
        """Tell the xs where the unknowns across are nought."""
        told = [fraction(0) for _ in range(self.wide)]
        for at, unknown in enumerate(self.down):
            if unknown < self.wide:
                told[unknown] = fraction(self.rows[at][-1], self.scale)
        return told

    def way(self, column):
        """Tell by how much the xs grow where a column's unknown grows by 1."""
        told = [fraction(0) for _ in range(self.wide)]
        for at, unknown in enumerate(self.down):
            if unknown < self.wide:
                told[unknown] = fraction(-self.rows[at][column], self.scale)
        if self.across[column] < self.wide:
            told[self.across[column]] = fraction(1)
        return told

    def prices(self, row):
        """Tell how often each of the task's rows stands in a row of the tableau."""
        told = [fraction(0) for _ in range(len(self.down))]
        for at, unknown in enumerate(self.across):
            if unknown >= self.wide:
                told[unknown - self.wide] = fraction(self.rows[row][at], self.scale)
        if row < len(self.down) and self.down[row] >= self.wide:
            told[self.down[row] - self.wide] = fraction(1)
        return told

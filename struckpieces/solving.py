"""Equations over numbers from 0 on, solved without rounding."""

from struckpieces.ratios import ratio


def solved(columns, sums):
    """Fractions from 0 on, one for each column, so many times which the columns add up to the sums, numbers; or None.

    With it, if there is none, a fraction for each row: each column's sum of products with them is from 0 on, that of
    the sums below 0. So it is a pair, of which one item is None.
    """
    table = Table(columns, sums)
    while table.improve():
        pass
    if table.rows[-1][-1] != 0:
        return None, table.witness()
    return table.answer(), None


class Table:
    """A simplex table: a row for each equation, one for what is lacking, all of them so many times their scale.

    It has columns for the unknowns, then one for each equation's makeshift, then the sums. At first makeshifts make
    up for all; each step gives an unknown more, until what is lacking can't be less.
    """

    def __init__(self, columns, sums):
        self.many = len(columns)
        self.scale = 1
        # Which column each row's equation is solved for.
        self.solving = [self.many + at for at in range(len(sums))]
        self.rows = [
            [column[at] for column in columns] + [int(at == other) for other in range(len(sums))] + [total]
            for at, total in enumerate(sums)
        ]
        lacking = [-sum([row[k] for row in self.rows]) for k in range(self.many)]
        self.rows.append(lacking + [0] * len(sums) + [-sum(sums)])

    def improve(self):
        """One step, if there is one to take; returns whether it was taken."""
        for column in range(self.many):
            # Always the first column and, of rows alike, the first solved for: so no table comes twice.
            if self.rows[-1][column] < 0:
                self.pivot(self.leaving(column), column)
                return True
        return False

    def leaving(self, column):
        """The row whose equation sets the bound up to which a column's unknown may grow."""
        best = None
        for at, row in enumerate(self.rows[:-1]):
            if row[column] <= 0:
                continue
            if best is None:
                best = at
                continue
            least = self.rows[best]
            mine, its = row[-1] * least[column], least[-1] * row[column]
            if mine < its or (mine == its and self.solving[at] < self.solving[best]):
                best = at
        return best

    def pivot(self, at, column):
        """Solves a row's equation for a column."""
        chosen = self.rows[at]
        by = chosen[column]
        # The division leaves no rest: all items are determinants of the first table's.
        self.rows = [
            row if other == at else [
                (item * by - row[column] * chosen[k]) // self.scale for k, item in enumerate(row)
            ]
            for other, row in enumerate(self.rows)
        ]
        self.scale = by
        self.solving[at] = column

    def answer(self):
        """What the unknowns are."""
        found = [(0, 1)] * self.many
        for at, column in enumerate(self.solving):
            if column < self.many:
                found[column] = ratio(self.rows[at][-1], self.scale)
        return found

    def witness(self):
        """For each row a fraction; together they show that nothing solves the equations."""
        makeshifts = self.rows[-1][self.many:-1]
        return [ratio(item - self.scale, self.scale) for item in makeshifts]

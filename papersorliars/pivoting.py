"""Equations with numbers that may not be below 0, in integers.

The equations say what the columns, multiplied by numbers and added, must give: 1 in the first equation, and
0 in all others. The number of a loose column is any, that of another column is not below 0. All rows of the
table are kept as integers with one common divisor. Each of these integers is a determinant of numbers of the
equations, so every division leaves no remainder and the integers stay small.
"""


class Tableau:
    """The search for such numbers: a table in which each row belongs to one column, or to none yet."""

    def __init__(self, columns, loose):
        self.many = len(columns)
        self.size = len(columns[0])
        self.loose = loose
        self.divisor = 1
        # Behind the columns stand those of a unit matrix, and at the end the right sides.
        self.table = []
        for place in range(self.size):
            units = [1 if other == place else 0 for other in range(self.size)]
            self.table.append([column[place] for column in columns] + units + [1 if place == 0 else 0])
        # The column of each row; a row of none yet has that of the unit matrix.
        self.owners = [self.many + place for place in range(self.size)]

    def solve(self):
        """Gives rows to the columns until there is an answer."""
        for column in range(self.many):
            if self.loose[column]:
                self.take_loose(column)
        column = self.next_column()
        while column is not None:
            self.pivot(self.next_row(column), column)
            column = self.next_column()

    def unowned(self):
        """The rows that belong to no column yet."""
        return [at for at in range(self.size) if self.owners[at] >= self.many]

    def take_loose(self, column):
        """Gives a row to a loose column, if one is left in which it stands."""
        # The first row comes last, since its right side is not 0 and no other may become less than 0.
        for at in self.unowned()[::-1]:
            if self.table[at][column] != 0:
                self.pivot(at, column)
                return

    def next_column(self):
        """The first column that is not loose and makes what is still missing less, or None."""
        rows = self.unowned()
        for column in range(self.many):
            if not self.loose[column] and sum([self.table[at][column] for at in rows]) > 0:
                return column
        return None

    def next_row(self, column):
        """The row that first comes to 0 when the number of the column grows; of several, that of the first column."""
        best = None
        for at in range(self.size):
            owner = self.owners[at]
            if self.table[at][column] > 0 and not (owner < self.many and self.loose[owner]):
                if best is None or self.comes_first(at, best, column):
                    best = at
        return best

    def comes_first(self, at, other, column):
        """Whether the row comes to 0 before the other one."""
        first = self.table[at][-1] * self.table[other][column]
        second = self.table[other][-1] * self.table[at][column]
        return first < second or (first == second and self.owners[at] < self.owners[other])

    def pivot(self, at, column):
        """Gives the row to the column."""
        row = self.table[at]
        if row[column] < 0:
            row = [-number for number in row]
        self.table[at] = row
        worth = row[column]
        for other in range(self.size):
            if other != at:
                times = self.table[other][column]
                pairs = list(zip(self.table[other], row))
                self.table[other] = [(worth * first - times * second) // self.divisor for first, second in pairs]
        self.divisor = worth
        self.owners[at] = column

    def solved(self):
        """Whether there are such numbers."""
        return all([self.table[at][-1] == 0 for at in self.unowned()])

    def amounts(self):
        """Such numbers, all multiplied by the same integer above 0."""
        found = [0] * self.many
        for at in range(self.size):
            if self.owners[at] < self.many:
                found[self.owners[at]] = self.table[at][-1]
        return found

    def witness(self):
        """Numbers of the equations, if there are no such numbers.

        Multiplied by them and added, the equations give a number above 0 on their right side, 0 at each loose
        column, and at no other column a number above 0.
        """
        rows = self.unowned()
        return [sum([self.table[at][self.many + place] for at in rows]) for place in range(self.size)]

"""Rows in any number of unknowns, solved step by step: what rooms are said to have is worked out here.

Each row has a slack, which is at least 0 at the points of the room. A tableau tells some slacks and unknowns, its
BASIC ones, by the others, its LOOSE ones, in integers above one common denominator; it stands at the point at
which all loose ones are 0. Unknowns have the names 0 to n - 1, the slack of row i has the name n + i.
"""

from everygust.fractions import fraction_of


def _turned(row, head, column, size, den, sign):
    # One basic row behind an exchange; all divisions leave nothing over, as the entries are determinants.
    k = row[column]
    if k == 0:
        return row if size == den else [v * size // den for v in row]
    found = [(v * size - k * h) // den for v, h in zip(row, head)]
    found[column] = sign * k
    return found


class Tableau:
    """The rows of a room of n unknowns, a tuple or list of pairs (members, bound) of integers.

    Where it can be, the slacks of the rows with the numbers in wanted become the first loose ones.
    """

    def __init__(self, n, rows, wanted=()):
        self.n = n
        self.many = len(rows)
        self.den = 1
        self.body = [[b] + [-k for k in a] for a, b in rows]
        self.basic = [n + i for i in range(len(rows))]
        self.loose = list(range(n))
        self.aim = [0] * (n + 1)
        # So many exchanges in a row may lead nowhere before they are chosen with care.
        self.patience = n + self.many
        # Where no row tells an unknown, it stays loose for ever: a line of the room goes along it.
        for c in range(1, n + 1):
            r = self._row_for(c, wanted)
            if r is None:
                r = self._row_for(c, list(range(self.many)))
            if r is not None:
                self.exchange(r, c)

    def _row_for(self, c, numbers):
        best = None
        for r in numbers:
            k = self.body[r][c]
            if self.basic[r] >= self.n and k and (best is None or abs(k) < abs(self.body[best][c])):
                best = r
        return best

    def exchange(self, r, c):
        """Makes the basic one of row r loose, and the loose one of column c basic."""
        head = self.body[r]
        size, sign, den = head[c], 1, self.den
        if size < 0:
            head = [-k for k in head]
            size, sign = -size, -1
        turned = [_turned(row, head, c, size, den, sign) for row in self.body]
        told = [-k for k in head]
        told[c] = sign * den
        turned[r] = told
        self.body = turned
        self.aim = _turned(self.aim, head, c, size, den, sign)
        self.den = size
        self.basic[r], self.loose[c - 1] = self.loose[c - 1], self.basic[r]

    def twin(self):
        """A tableau that stands where this one does, and goes its own way from then on."""
        found = Tableau(self.n, ())
        # No row is changed once it is there: an exchange puts others in its place.
        found.body = list(self.body)
        found.basic = list(self.basic)
        found.loose = list(self.loose)
        found.aim = self.aim
        found.den = self.den
        found.many = self.many
        found.patience = self.patience
        return found

    def take_in(self, row):
        """Puts one more row behind the others; where the tableau stands it may be broken."""
        members, bound = row
        told = [bound * self.den] + [0] * self.n
        for basic, name in zip(self.body, self.basic):
            if name < self.n and members[name]:
                told = [v - members[name] * k for v, k in zip(told, basic)]
        for c, name in enumerate(self.loose):
            if name < self.n:
                told[c + 1] -= members[name] * self.den
        self.body.append(told)
        self.basic.append(self.n + self.many)
        self.many += 1
        self.patience += 1
        # What was loose for ever, as no row told it, is told by this one now, which becomes tight.
        for c, name in enumerate(self.loose):
            if name < self.n and told[c + 1]:
                self.exchange(len(self.body) - 1, c + 1)
                return

    def entering(self, worths, is_careful):
        """The column of a loose slack that makes what worths tells grow, 0 if none does."""
        best = 0
        for c in range(1, len(worths)):
            if worths[c] <= 0 or self.loose[c - 1] < self.n:
                continue
            if best == 0:
                best = c
            elif is_careful:
                # The least name is taken, so that no tableau comes again.
                if self.loose[c - 1] < self.loose[best - 1]:
                    best = c
            elif worths[c] > worths[best]:
                best = c
        return best

    def blocker(self, c, skipped):
        """The row whose slack is the first to become 0 when column c grows; None if none does.

        Slacks below 0, and that of the row skipped, block nothing.
        """
        best = None
        for r, row in enumerate(self.body):
            if row[c] >= 0 or row[0] < 0 or self.basic[r] < self.n or r == skipped:
                continue
            if best is None:
                best = r
                continue
            other = self.body[best]
            less = row[0] * other[c] - other[0] * row[c]
            if less > 0 or (less == 0 and self.basic[r] < self.basic[best]):
                best = r
        return best

    def settle(self):
        """Goes to a point of the room; returns None, or bare weights if there is none."""
        while True:
            broken = [r for r, row in enumerate(self.body) if row[0] < 0 and self.basic[r] >= self.n]
            if not broken:
                return None
            if not self._lifted(broken[0]):
                return self._bare_weights(broken[0])

    def _lifted(self, r):
        # Whether the slack of row r, which is below 0, can be led to 0 without leaving rows that are kept.
        stalled = 0
        while True:
            row = self.body[r]
            c = self.entering(row, stalled > self.patience)
            if c == 0:
                return False
            block = self.blocker(c, r)
            if block is None or self._comes_first(r, block, c):
                self.exchange(r, c)
                return True
            stalled = 0 if self.body[block][0] else stalled + 1
            self.exchange(block, c)

    def _comes_first(self, r, block, c):
        # Whether row r, still broken, is kept before the blocking row becomes tight.
        row, other = self.body[r], self.body[block]
        return row[0] * other[c] <= other[0] * row[c]

    def _bare_weights(self, r):
        row = self.body[r]
        found = [(0, 1)] * self.many
        found[self.basic[r] - self.n] = fraction_of(self.den, -row[0])
        for c, name in enumerate(self.loose):
            if name >= self.n:
                found[name - self.n] = fraction_of(row[c + 1], row[0])
        return tuple(found)

    def aim_at(self, form):
        """Takes the worth of a form of integers as what shall grow."""
        found = [0] * (self.n + 1)
        for r, name in enumerate(self.basic):
            if name < self.n and form[name]:
                found = [v + form[name] * k for v, k in zip(found, self.body[r])]
        for c, name in enumerate(self.loose):
            if name < self.n:
                found[c + 1] += form[name] * self.den
        self.aim = found

    def aim_at_slacks(self, numbers):
        """Takes the sum of the slacks of some rows as what shall grow; numbers is a dict with them as keys."""
        found = [0] * (self.n + 1)
        for r, name in enumerate(self.basic):
            if name - self.n in numbers:
                found = [v + k for v, k in zip(found, self.body[r])]
        for c, name in enumerate(self.loose):
            if name - self.n in numbers:
                found[c + 1] += self.den
        self.aim = found

    def line(self):
        """The column of a loose unknown along which the aim grows or falls, 0 if there is none."""
        for c, name in enumerate(self.loose):
            if name < self.n and self.aim[c + 1]:
                return c + 1
        return 0

    def _open_column(self):
        # A column of a loose slack that nothing blocks and that makes the aim grow, 0 if there is none.
        for c, name in enumerate(self.loose):
            if name < self.n or self.aim[c + 1] <= 0:
                continue
            if all(row[c + 1] >= 0 or basic < self.n for row, basic in zip(self.body, self.basic)):
                return c + 1
        return 0

    def climb(self):
        """Goes where the aim is greatest and returns 0, or returns a column along which it grows for ever.

        The tableau stands at a point of the room.
        """
        c = self.line() or self._open_column()
        if c:
            return c
        stalled = 0
        while True:
            c = self.entering(self.aim, stalled > self.patience)
            if c == 0:
                return 0
            block = self.blocker(c, None)
            if block is None:
                return c
            stalled = 0 if self.body[block][0] else stalled + 1
            self.exchange(block, c)

    def spot(self):
        """The pair (numbers, denominator) of the point at which the tableau stands."""
        found = [0] * self.n
        for r, name in enumerate(self.basic):
            if name < self.n:
                found[name] = self.body[r][0]
        return (found, self.den)

    def way(self, c):
        """The form of integers along which the unknowns go where column c grows, as the aim does."""
        found = [0] * self.n
        for r, name in enumerate(self.basic):
            if name < self.n:
                found[name] = self.body[r][c]
        if self.loose[c - 1] < self.n:
            found[self.loose[c - 1]] = self.den
        return found if self.aim[c] > 0 else [-k for k in found]

    def weights(self):
        """The weights of the rows that show the aim to be greatest here, without their denominator."""
        found = [0] * self.many
        for c, name in enumerate(self.loose):
            if name >= self.n:
                found[name - self.n] = -self.aim[c + 1]
        return found

    def tight_numbers(self):
        """The numbers of the rows whose slacks are loose."""
        return [name - self.n for name in self.loose if name >= self.n]

    def slack_numbers(self):
        """The numbers of the rows whose slack is above 0 here, as the keys of a dict."""
        return {name - self.n: True for r, name in enumerate(self.basic) if name >= self.n and self.body[r][0] > 0}

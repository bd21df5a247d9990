"""A sheet on which rows of gates are written: alike rows once, and no gate where another wire tells the same."""


class Sheet:
    """Rows of gates in the making; each method tells the wire that stands for what it was asked."""

    def __init__(self):
        self.rows = []
        self.known = {}

    def written(self, row):
        """The wire of the row, which is written only where it does not stand there yet."""
        if row not in self.known:
            self.known[row] = len(self.rows)
            self.rows.append(row)
        return self.known[row]

    def fixed(self, bit):
        return self.written(("fix", bit))

    def taken_in(self, name, bit):
        return self.written(("in", name, bit))

    def inverse(self, a):
        row = self.rows[a]
        if row[0] == "fix":
            return self.fixed(1 - row[1])
        if row[0] == "not":
            return row[1]
        return self.written(("not", a))

    def both(self, a, b):
        """The wire that tells 1 where both do."""
        if self.are_inverse(a, b):
            return self.fixed(0)
        if a == b or self.is_fixed(a, 0) or self.is_fixed(b, 1):
            return a
        if self.is_fixed(b, 0) or self.is_fixed(a, 1):
            return b
        return self.in_order("and", a, b)

    def either(self, a, b):
        """The wire that tells 1 where one of them does, or both."""
        if self.are_inverse(a, b):
            return self.fixed(1)
        if a == b or self.is_fixed(a, 1) or self.is_fixed(b, 0):
            return a
        if self.is_fixed(b, 1) or self.is_fixed(a, 0):
            return b
        return self.in_order("or", a, b)

    def unlike(self, a, b):
        """The wire that tells 1 where just one of them does."""
        if a == b:
            return self.fixed(0)
        if self.are_inverse(a, b):
            return self.fixed(1)
        for one, other in ((a, b), (b, a)):
            if self.is_fixed(one, 0):
                return other
            if self.is_fixed(one, 1):
                return self.inverse(other)
        return self.in_order("xor", a, b)

    def any_of(self, wires):
        """The wire that tells 1 where some of them does."""
        found = self.fixed(0)
        for wire in wires:
            found = self.either(found, wire)
        return found

    def in_order(self, kind, a, b):
        # Written by rising wires, two gates that differ in the order of their wires alone are one row.
        return self.written((kind, min(a, b), max(a, b)))

    def is_fixed(self, wire, bit):
        return self.rows[wire] == ("fix", bit)

    def are_inverse(self, a, b):
        return self.rows[a] == ("not", b) or self.rows[b] == ("not", a)

    def latch(self):
        """A new latch, led by a wire later on, since that wire may hang on the latch itself."""
        self.rows.append(("latch", len(self.rows)))
        return len(self.rows) - 1

    def lead(self, latch, wire):
        self.rows[latch] = ("latch", wire)

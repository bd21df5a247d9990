"""Programs for the tests, made by a seed."""

from deedloom.program import Program

OPS = ("plus", "less", "and", "or", "xor", "below", "same")
# Names that are words of the lines too, among plain ones.
NAMES = ("width", "in", "box", "tell", "if", "else", "while", "end", "plus", "less", "and", "or", "xor",
         "below", "same", "copy", "a", "z", "abcdef")


def program_of(chance):
    """Some program within the bounds, by a random.Random."""
    width = chance.randint(1, 8)
    names = chance.sample(NAMES, chance.randint(0, 8))
    ins = names[:chance.randint(0, min(4, len(names)))]
    rows = Rows(chance, width, names, chance.randint(0, 40)).within(0) if names else []
    return Program(width, ins, names[len(ins):], rows)


class Rows:
    def __init__(self, chance, width, names, left):
        self.chance = chance
        self.width = width
        self.names = names
        self.left = left

    def within(self, depth):
        rows = []
        while self.left > 0 and (depth == 0 or self.chance.random() < 0.6):
            self.left -= 1
            rows.append(self.row(depth))
        return rows

    def row(self, depth):
        kind = self.chance.choice(OPS + ("copy", "tell") + ("if", "while") * 3)
        name = self.chance.choice(self.names)
        if kind == "if" and depth < 8:
            return ("if", name, self.within(depth + 1), self.within(depth + 1))
        if kind == "while" and depth < 8:
            return ("while", name, self.within(depth + 1))
        if kind in OPS:
            return (kind, name, self.operand(), self.operand())
        return ("copy", name, self.operand()) if kind == "copy" else ("tell", self.operand())

    def operand(self):
        if self.chance.random() < 0.3:
            return self.chance.randint(0, 2 ** self.width - 1)
        return self.chance.choice(self.names)

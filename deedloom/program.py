"""Programs, and what their operations make of words."""

OPS = ("plus", "less", "and", "or", "xor", "below", "same")


class Program:
    """A width, boxes with names, the inputs first, and statements."""

    def __init__(self, width, ins, boxes, rows):
        self.width = width
        self.ins = list(ins)
        self.boxes = list(ins) + list(boxes)
        self.rows = copied(rows)


def copied(rows):
    """The statements, with lists of their own at every depth."""
    return [copied_row(row) for row in rows]


def copied_row(row):
    # A deed holds no list, so the tuple itself can be kept.
    if row[0] == "if":
        return ("if", row[1], copied(row[2]), copied(row[3]))
    if row[0] == "while":
        return ("while", row[1], copied(row[2]))
    return row


def word_count(width):
    """How many words there are of so many bits."""
    many = 1
    for bit in range(width):
        many = many * 2
    return many


def reckoned(op, x, y, width):
    """The word that the operation makes of two words."""
    if op == "plus":
        return (x + y) % word_count(width)
    if op == "less":
        return (x - y) % word_count(width)
    if op == "and":
        return x & y
    if op == "or":
        return x | y
    if op == "xor":
        return x ^ y
    if op == "below":
        return 1 if x < y else 0
    return 1 if x == y else 0

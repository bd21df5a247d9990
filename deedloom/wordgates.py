"""Gates for whole words: lists of wires, the bit 0 first."""

from deedloom.deeds import operands_of


def wires_made(sheet, deed, boxes, width):
    """The wires of the word that the deed writes or tells, by the boxes' wires."""
    words = [operand_wires(sheet, operand, boxes, width) for operand in operands_of(deed)]
    if len(words) == 1:
        return words[0]
    return wires_reckoned(sheet, deed[0], words[0], words[1])


def operand_wires(sheet, operand, boxes, width):
    if isinstance(operand, str):
        return list(boxes[operand])
    return [sheet.fixed((operand >> bit) & 1) for bit in range(width)]


def wires_reckoned(sheet, op, xs, ys):
    if op == "and":
        return [sheet.both(x, y) for x, y in zip(xs, ys)]
    if op == "or":
        return [sheet.either(x, y) for x, y in zip(xs, ys)]
    if op == "xor":
        return [sheet.unlike(x, y) for x, y in zip(xs, ys)]
    if op == "plus":
        return sum_wires(sheet, xs, ys, sheet.fixed(0))[:-1]
    if op == "same":
        apart = sheet.any_of([sheet.unlike(x, y) for x, y in zip(xs, ys)])
        return lone_bit(sheet, sheet.inverse(apart), len(xs))
    # A less B is A, B with its bits turned over, and 1 more; it runs over just where A is not below B.
    difference = sum_wires(sheet, xs, [sheet.inverse(y) for y in ys], sheet.fixed(1))
    if op == "less":
        return difference[:-1]
    return lone_bit(sheet, sheet.inverse(difference[-1]), len(xs))


def sum_wires(sheet, xs, ys, carry):
    """The wires of the sum, and behind them that of what runs over."""
    wires = []
    for x, y in zip(xs, ys):
        half = sheet.unlike(x, y)
        wires.append(sheet.unlike(half, carry))
        carry = sheet.either(sheet.both(x, y), sheet.both(half, carry))
    return wires + [carry]


def lone_bit(sheet, wire, width):
    return [wire] + [sheet.fixed(0) for bit in range(width - 1)]


def wires_chosen(sheet, choices, width):
    """The word of that choice (mark, word) whose mark tells 1; where none does, 0."""
    chosen = []
    for bit in range(width):
        chosen.append(sheet.any_of([sheet.both(mark, word[bit]) for mark, word in choices]))
    return chosen

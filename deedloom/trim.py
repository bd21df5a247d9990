"""Programs without deeds that nothing reads."""

from deedloom.deeds import box_written, boxes_read
from deedloom.program import Program


def idle_deeds(program):
    """How many deeds of the program are idle."""
    return deeds_in(program.rows) - deeds_in(without_idle(program.rows, []))


def trimmed(program):
    """What is left of the program when rounds take nothing more out."""
    rows = program.rows
    fewer = after_round(rows)
    while fewer != rows:
        rows = fewer
        fewer = after_round(rows)
    return Program(program.width, program.ins, program.boxes[len(program.ins):], rows)


def after_round(rows):
    return without_empty_ifs(without_idle(rows, []))


def deeds_in(rows):
    many = 0
    for row in rows:
        if row[0] == "if":
            many = many + deeds_in(row[2]) + deeds_in(row[3])
        elif row[0] == "while":
            many = many + deeds_in(row[2])
        else:
            many = many + 1
    return many


def without_idle(rows, behind):
    """The statements without their idle deeds; behind are the boxes that some way from behind them on reads first."""
    kept = []
    for row in reversed(rows):
        kept.extend(row_without_idle(row, behind))
        # What idle deeds read counts in this round still, since all are taken out at once.
        behind = read_first(row, behind)
    return list(reversed(kept))


def row_without_idle(row, behind):
    """The statement in a list, or no statement where it is an idle deed."""
    if row[0] == "if":
        return [("if", row[1], without_idle(row[2], behind), without_idle(row[3], behind))]
    if row[0] == "while":
        return [("while", row[1], without_idle(row[2], read_first(row, behind)))]
    name = box_written(row)
    return [row] if name is None or name in behind else []


def read_first(row, behind):
    """The boxes that some way from the statement on reads ahead of writing them."""
    if row[0] == "if":
        either = joined(all_read_first(row[2], behind), all_read_first(row[3], behind))
        return joined(either, [row[1]])
    if row[0] == "while":
        # Once through its rows is enough: a second time reads nothing first that the first one does not.
        around = joined(behind, [row[1]])
        return joined(around, all_read_first(row[2], around))
    return joined([name for name in behind if name != box_written(row)], boxes_read(row))


def all_read_first(rows, behind):
    for row in reversed(rows):
        behind = read_first(row, behind)
    return behind


def joined(names, others):
    return names + [name for name in others if name not in names]


def without_empty_ifs(rows):
    """The statements without ifs both lists of which are empty, or become so."""
    kept = []
    for row in rows:
        if row[0] == "if":
            ones = without_empty_ifs(row[2])
            others = without_empty_ifs(row[3])
            if ones or others:
                kept.append(("if", row[1], ones, others))
        elif row[0] == "while":
            kept.append(("while", row[1], without_empty_ifs(row[2])))
        else:
            kept.append(row)
    return kept

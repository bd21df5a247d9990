"""What deeds read, write and make."""

from deedloom.program import reckoned

# Sums are 0, looks 1 and bits 2, as they stand in units.
SORTS = {"plus": 0, "less": 0, "below": 1, "same": 1, "and": 2, "or": 2, "xor": 2}


def operands_of(deed):
    return deed[1:] if deed[0] == "tell" else deed[2:]


def boxes_read(deed):
    return [part for part in operands_of(deed) if isinstance(part, str)]


def box_written(deed):
    """The box that the deed writes; None for a tell."""
    return None if deed[0] == "tell" else deed[1]


def sort_of(deed):
    """Which of the three units the deed needs; None for copies and tells."""
    return SORTS.get(deed[0])


def word_of(operand, boxes):
    return boxes[operand] if isinstance(operand, str) else operand


def word_made(deed, boxes, width):
    """The word that the deed writes or tells, with the boxes as they are."""
    parts = [word_of(operand, boxes) for operand in operands_of(deed)]
    if len(parts) == 1:
        return parts[0]
    return reckoned(deed[0], parts[0], parts[1], width)

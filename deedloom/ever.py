"""How a run goes for ever."""

from deedloom.errors import TooLong
from deedloom.plain import Run

MOST_STEPS = 1000


def ever(program, words):
    """How the run is over, or goes round; TooLong where neither shows behind 1,000 steps."""
    going = Run(program, words)
    seen = {}
    for steps in range(MOST_STEPS + 1):
        if going.is_over():
            return ("over", going.told, going.boxes)
        standing = standing_of(going)
        if standing in seen:
            first = seen[standing][0]
            many = seen[standing][1]
            return ("round", going.told[:many], going.told[many:], first, steps - first)
        seen[standing] = (steps, len(going.told))
        going.go_step()
    raise TooLong("neither over nor round")


def standing_of(going):
    """The statements still to be done and the boxes' words, as one value that is alike just where they are."""
    return (frozen(going.left), tuple(going.boxes.values()))


def frozen(rows):
    return tuple([frozen_row(row) for row in rows])


def frozen_row(row):
    # A dict can only be asked for values without lists in them.
    if row[0] == "if":
        return ("if", row[1], frozen(row[2]), frozen(row[3]))
    if row[0] == "while":
        return ("while", row[1], frozen(row[2]))
    return row

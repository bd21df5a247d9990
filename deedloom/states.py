"""Tables with as few states as their behaviour needs."""

from deedloom.endings import led_anew, places_led_to


def fewer_states(table):
    """The table with alike states made one and those left out to which no way leads, and each old state's new one."""
    classes = alike_classes(table)
    ways = led_from_first(table)
    numbers = {}
    places = []
    kept = []
    for old in range(len(table)):
        if not ways[old]:
            places.append(None)
            continue
        if classes[old] not in numbers:
            numbers[classes[old]] = len(numbers)
            kept.append(table[old])
        places.append(numbers[classes[old]])
    return ([(list(state[0]), led_anew(state[1], places)) for state in kept], places)


def alike_classes(table):
    """For each state the number of its class; two states have the same number just where they are alike."""
    classes = numbered([(tuple(state[0]), looks_of(state[1])) for state in table])
    finer = parted_by_ways(table, classes)
    while finer != classes:
        classes = finer
        finer = parted_by_ways(table, classes)
    return classes


def looks_of(ending):
    """What must be the same in alike endings, but for where they lead."""
    return (ending[0], ending[1]) if ending[0] == "choose" else (ending[0], None)


def parted_by_ways(table, classes):
    """The classes, parted where endings lead to unlike classes."""
    marks = []
    for state, own in zip(table, classes):
        marks.append((own, tuple([classes[place] for place in places_led_to(state[1])])))
    return numbered(marks)


def numbered(marks):
    """A number for each mark, the same for the same marks, counted in the order in which they come."""
    numbers = {}
    for mark in marks:
        numbers.setdefault(mark, len(numbers))
    return [numbers[mark] for mark in marks]


def led_from_first(table):
    """For each state whether some way leads to it from state 0."""
    ways = [False for state in table]
    ahead = [0]
    while ahead:
        place = ahead.pop()
        if not ways[place]:
            ways[place] = True
            ahead.extend(places_led_to(table[place][1]))
    return ways

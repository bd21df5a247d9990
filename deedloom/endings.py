"""The endings of blocks and states, and where they lead."""


def places_led_to(ending):
    """All places to which the ending may lead, in its own order."""
    if ending[0] == "go":
        return [ending[1]]
    if ending[0] == "choose":
        return [ending[2], ending[3]]
    return []


def place_led_to(ending, boxes):
    """The place to which the ending leads with the boxes as they are; None for stop."""
    if ending[0] == "go":
        return ending[1]
    if ending[0] == "choose":
        return ending[2] if boxes[ending[1]] != 0 else ending[3]
    return None


def led_anew(ending, places):
    """The ending, leading to the new place of each place."""
    if ending[0] == "go":
        return ("go", places[ending[1]])
    if ending[0] == "choose":
        return ("choose", ending[1], places[ending[2]], places[ending[3]])
    return ending

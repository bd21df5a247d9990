"""Nets made fewer in gates."""

from deedloom.net import Net
from deedloom.sheet import Sheet


def fewer_gates(net):
    """A net with no more rows, whose wires for boxes, TELL, SAID and STOP tell the same at each beat."""
    remaking = Remaking(net.rows)
    while remaking.marks_more():
        remaking.write_anew()
    remaking.lead_latches()
    return only_needed(net_on(remaking.sheet.rows, net, remaking.wires))


class Remaking:
    """Old rows written anew on a sheet, with the wire there that stands for each old one.

    Which latches can be done without shows only when all rows are written, so they are marked and all is written again.
    """

    def __init__(self, rows):
        self.rows = rows
        self.noughts = {}
        self.doubles = {}
        self.write_anew()

    def write_anew(self):
        self.sheet = Sheet()
        self.wires = []
        for place, row in enumerate(self.rows):
            self.wires.append(self.wire_for(place, row))

    def wire_for(self, place, row):
        if row[0] == "fix":
            return self.sheet.fixed(row[1])
        if row[0] == "in":
            return self.sheet.taken_in(row[1], row[2])
        if row[0] == "latch":
            return self.latch_for(place)
        if row[0] == "not":
            return self.sheet.inverse(self.wires[row[1]])
        if row[0] == "and":
            return self.sheet.both(self.wires[row[1]], self.wires[row[2]])
        if row[0] == "or":
            return self.sheet.either(self.wires[row[1]], self.wires[row[2]])
        return self.sheet.unlike(self.wires[row[1]], self.wires[row[2]])

    def latch_for(self, place):
        if place in self.noughts:
            return self.sheet.fixed(0)
        if place in self.doubles:
            return self.wires[self.doubles[place]]
        return self.sheet.latch()

    def latches(self):
        """The places of the old latches that are still latches of their own."""
        places = [place for place, row in enumerate(self.rows) if row[0] == "latch"]
        return [place for place in places if place not in self.noughts and place not in self.doubles]

    def marks_more(self):
        """Marks latches that never tell 1 or are led by the same wire as an earlier one; whether there were such."""
        firsts = {}
        own = self.latches()
        for place in own:
            wire = self.wires[self.rows[place][1]]
            if wire == self.wires[place] or self.sheet.is_fixed(wire, 0):
                self.noughts[place] = True
            elif wire in firsts:
                self.doubles[place] = firsts[wire]
            else:
                firsts[wire] = place
        return len(firsts) < len(own)

    def lead_latches(self):
        for place in self.latches():
            self.sheet.lead(self.wires[place], self.wires[self.rows[place][1]])


def net_on(rows, net, wires):
    """The net on other rows, with the new wire of each old one."""
    boxes = {}
    for name in net.boxes:
        boxes[name] = [wires[wire] for wire in net.boxes[name]]
    return Net(rows, boxes, wires[net.tell], [wires[wire] for wire in net.said], wires[net.stop])


def only_needed(net):
    """The net without the rows that lead to none of its own wires."""
    needed = needed_rows(net)
    rows = []
    wires = []
    for place, row in enumerate(net.rows):
        wires.append(len(rows) if needed[place] else None)
        if needed[place]:
            rows.append(row)
    return net_on([renumbered(row, wires) for row in rows], net, wires)


def needed_rows(net):
    """For each row whether it is one of the net's own wires or leads to one."""
    ahead = [net.tell, net.stop] + net.said
    for name in net.boxes:
        ahead.extend(net.boxes[name])
    needed = [False for row in net.rows]
    while ahead:
        place = ahead.pop()
        if not needed[place]:
            needed[place] = True
            ahead.extend(wires_of(net.rows[place]))
    return needed


def wires_of(row):
    return [] if row[0] == "fix" or row[0] == "in" else list(row[1:])


def renumbered(row, wires):
    if row[0] == "fix" or row[0] == "in":
        return row
    return tuple([row[0]] + [wires[wire] for wire in row[1:]])

"""Programs parted into blocks of deeds with an ending each."""

MOST_DEEDS = 8


def blocks_of(program):
    """The blocks that do, from block 0 on, what the program does."""
    parting = Parting()
    first = parting.keep_place()
    parting.blocks[first] = parting.opened(program.rows, ([], ("stop",)))
    return parting.blocks


class Parting:
    """Makes blocks from the last statement to the first, since an ending names a block behind it.

    The block at whose begin statements are still put is handed about as a tuple and has no number yet.
    """

    def __init__(self):
        self.blocks = []

    def keep_place(self):
        """The number of a block that is laid there later."""
        return self.numbered(([], ("stop",)))

    def numbered(self, block):
        self.blocks.append(block)
        return len(self.blocks) - 1

    def way_to(self, block):
        """The number that leads to the block; one that only goes on is passed over, as it would take no step."""
        if block[0] == [] and block[1][0] == "go":
            return block[1][1]
        return self.numbered(block)

    def opened(self, rows, block):
        """The block with the statements put ahead of it."""
        for row in reversed(rows):
            block = self.with_row(row, block)
        return block

    def with_row(self, row, block):
        if row[0] == "if":
            return self.with_if(row, block)
        if row[0] == "while":
            return self.with_while(row, block)
        if len(block[0]) == MOST_DEEDS:
            return ([row], ("go", self.way_to(block)))
        return ([row] + block[0], block[1])

    def with_if(self, row, block):
        behind = ([], ("go", self.way_to(block)))
        ones = self.way_to(self.opened(row[2], behind))
        others = self.way_to(self.opened(row[3], behind))
        return ([], ("choose", row[1], ones, others))

    def with_while(self, row, block):
        behind = self.way_to(block)
        look = self.keep_place()
        inner = self.way_to(self.opened(row[2], ([], ("go", look))))
        self.blocks[look] = ([], ("choose", row[1], inner, behind))
        return ([], ("go", look))

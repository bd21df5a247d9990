"""Rows of gates with memories, and what their wires tell."""


def wires_told(rows, words, beats):
    """The bits of all wires, a list for each beat."""
    # A latch tells 0 at beat 0, as if all wires had told 0 ahead of it.
    before = [0 for row in rows]
    told = []
    for beat in range(beats):
        before = bits_behind(rows, words, before)
        told.append(before)
    return told


def bits_behind(rows, words, before):
    """The bits of all wires at a beat, with those of the beat before."""
    bits = []
    for row in rows:
        kind = row[0]
        # One chain in one place, since this is done for each row at each beat.
        if kind == "and":
            bits.append(bits[row[1]] & bits[row[2]])
        elif kind == "or":
            bits.append(bits[row[1]] | bits[row[2]])
        elif kind == "xor":
            bits.append(bits[row[1]] ^ bits[row[2]])
        elif kind == "not":
            bits.append(1 - bits[row[1]])
        elif kind == "latch":
            bits.append(before[row[1]])
        elif kind == "in":
            bits.append((words[row[1]] >> row[2]) & 1)
        else:
            bits.append(row[1])
    return bits

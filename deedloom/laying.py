"""Deeds laid into beats."""

from deedloom.deeds import box_written, boxes_read, sort_of


def gap(deeds, j, k):
    """1 where deed k must come in a later beat than deed j, 0 where not in an earlier one, else None."""
    earlier = deeds[j]
    later = deeds[k]
    if earlier[0] == "tell" and later[0] == "tell":
        return 1
    name = box_written(earlier)
    if name is not None and (name in boxes_read(later) or name == box_written(later)):
        return 1
    return 0 if box_written(later) in boxes_read(earlier) else None


def is_laying(deeds, units, beats):
    if not keeps_places(len(deeds), beats) or not keeps_leanings(deeds, beats):
        return False
    return all([keeps_units(deeds, units, beat) for beat in beats])


def keeps_places(many, beats):
    """Whether each place stands in just one beat, rising there, and no beat is empty."""
    places = []
    for beat in beats:
        if beat == [] or beat != sorted(beat):
            return False
        places.extend(beat)
    return sorted(places) == list(range(many))


def keeps_leanings(deeds, beats):
    beat_of = {}
    for number, beat in enumerate(beats):
        for place in beat:
            beat_of[place] = number
    for k in range(len(deeds)):
        for j in range(k):
            lean = gap(deeds, j, k)
            if lean is not None and beat_of[k] < beat_of[j] + lean:
                return False
    return True


def keeps_units(deeds, units, beat):
    sorts = [sort_of(deeds[place]) for place in beat]
    return all([sorts.count(sort) <= most for sort, most in enumerate(units)])


def laid(deeds, units):
    """A laying with as few beats as can be."""
    layer = Layer(deeds, units)
    everything = tuple(range(len(deeds)))
    # All that can be done in so many beats is looked at ahead of all that needs one more.
    ways = {(): []}
    while everything not in ways:
        longer = {}
        for done, beats in ways.items():
            for beat in layer.full_beats(done):
                longer.setdefault(tuple(sorted(list(done) + beat)), beats + [beat])
        ways = longer
    return ways[everything]


class Layer:
    """Tells which beats can come behind deeds that are done."""

    def __init__(self, deeds, units):
        self.units = units
        self.sorts = [sort_of(deed) for deed in deeds]
        self.gaps = [[gap(deeds, j, k) for j in range(k)] for k in range(len(deeds))]

    def full_beats(self, done):
        """Each beat to which nothing can be added; to do a deed earlier never makes more beats of the others."""
        missing = [place for place in range(len(self.sorts)) if place not in done]
        beats = [[]]
        for place in missing:
            beats = self.grown(done, beats, place)
        return [beat for beat in beats if not self.has_room(done, beat, missing)]

    def grown(self, done, beats, place):
        """The beats with the place and, where a later deed might have its unit, without it."""
        more = []
        for beat in beats:
            taken = self.fits(done, beat, place)
            if taken:
                more.append(beat + [place])
            if not taken or self.sorts[place] is not None:
                more.append(beat)
        return more

    def has_room(self, done, beat, missing):
        return any([place not in beat and self.fits(done, beat, place) for place in missing])

    def fits(self, done, beat, place):
        """Whether the deed can be done in the beat behind what is done."""
        sort = self.sorts[place]
        if sort is not None and [self.sorts[other] for other in beat].count(sort) == self.units[sort]:
            return False
        for earlier, lean in enumerate(self.gaps[place]):
            ahead = earlier in done or (lean == 0 and earlier in beat)
            if lean is not None and not ahead:
                return False
        return True

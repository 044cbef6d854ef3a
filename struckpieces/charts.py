"""Charts: which stretches of a log are idle, and strikings made of such stretches."""


class Chart:
    """The idle stretches of a text that grows at its front.

    A place is told by how many letters stand from it on, so that a letter more in front moves no place;
    many places together are an integer with a bit for each.
    """

    def __init__(self, pieces):
        self.pieces = pieces
        self.standing = {}
        # ends[place] are the places up to which the stretches from there on are idle, the empty one, too.
        self.ends = [1]

    def grown(self, text):
        """A chart of the text with the one of this chart behind it."""
        chart = Chart(self.pieces)
        chart.standing = dict(self.standing)
        chart.ends = list(self.ends)
        for letter in reversed(list(text)):
            chart.lead(letter)
        return chart

    def lead(self, letter):
        """A letter more, in front."""
        place = len(self.ends)
        self.standing[letter] = self.standing.get(letter, 0) | (1 << place)
        found = 1 << place
        for piece in self.pieces:
            if piece[0] == letter:
                found |= self.spread(self.trail(piece, place)[-1])
        self.ends.append(found)

    def spread(self, places):
        """Where idle stretches from any of the places on end."""
        found = 0
        while places:
            ends = self.ends[places.bit_length() - 1]
            found |= ends
            # What is idle behind what is idle was found with it.
            places &= ~ends
        return found

    def trail(self, piece, place):
        """For each letter of a piece the places behind it, the first one at the place, idle stretches between them."""
        trail = [1 << (place - 1)]
        for letter in piece[1:]:
            trail.append(self.past(trail[-1], letter))
        return trail

    def past(self, places, letter):
        """The places behind a letter up to which idle stretches reach from any of the places."""
        return (self.spread(places) & self.standing.get(letter, 0)) >> 1

    def is_idle(self):
        """Whether the whole text is idle."""
        return self.ends[-1] & 1 == 1

    def source(self, places, end):
        """One of the places from which an idle stretch reaches to the end, -1 if none does."""
        while places:
            place = places.bit_length() - 1
            if self.ends[place] >> end & 1:
                return place
            places ^= 1 << place
        return -1

    def cuts(self, piece, begin, end):
        """The places of a piece's letters if an idle stretch can begin with it, None if it can't."""
        if not self.standing.get(piece[0], 0) >> begin & 1:
            return None
        trail = self.trail(piece, begin)
        behind = self.source(trail[-1], end)
        if behind < 0:
            return None
        found = [behind + 1]
        for places in reversed(trail[:-1]):
            found.append(self.source(places, found[-1]) + 1)
        return found[::-1]

    def opening(self, begin, end):
        """How an idle stretch, not empty, may begin: a piece's number and the places of its letters.

        Here places are told by how many letters of the text stand ahead of them.
        """
        whole = len(self.ends) - 1
        for number, piece in enumerate(self.pieces):
            cuts = self.cuts(piece, whole - begin, whole - end)
            if cuts is not None:
                return number, [whole - place for place in cuts]
        return None


def chart_of(book, text):
    """The chart of a text."""
    return Chart(book.pieces).grown(text)


def is_stretch(chart, begin, end):
    """Whether the letters from one place to ahead of another one, told from the front, are idle."""
    whole = len(chart.ends) - 1
    return chart.ends[whole - begin] >> (whole - end) & 1 == 1


def strikes_of(opening, begin, end, ahead):
    """The list of strikes that take an idle stretch, letter by letter as opening tells, so many letters left ahead."""
    found = []
    while begin != end:
        number, cuts = opening(begin, end)
        for at in range(len(cuts) - 1):
            found += strikes_of(opening, cuts[at] + 1, cuts[at + 1], ahead + at + 1)
        found.append((ahead, number))
        begin = cuts[-1] + 1
    return found


def striking_but(opening, many, kept):
    """The striking of a log of so many letters that takes all but the letters at the kept places."""
    found = []
    begin = 0
    for ahead, place in enumerate(kept):
        found += strikes_of(opening, begin, place, ahead)
        begin = place + 1
    return tuple(found + strikes_of(opening, begin, many, len(kept)))

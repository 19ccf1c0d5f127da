"""A picture set along a way, of which only what a change makes needful is set anew."""

from dotscreen.errors import NoShade
from dotscreen.handing import LEFT, ODD, dots_of, entry_behind, ledger
from dotscreen.pictures import Picture, ask_cell, shade_at, with_shades


class Setting:
    def __init__(self, picture, way, shares, inks):
        self.entries = ledger(picture, way, shares, inks)
        self.numbers = dict([(entry[0], number) for number, entry in enumerate(self.entries)])
        self.picture = Picture(picture.most, picture.rows)
        self.shares = tuple(shares)
        self.inks = tuple(inks)

    def picture_now(self):
        return Picture(self.picture.most, self.picture.rows)

    def dots(self):
        return dots_of(self.picture, self.entries)

    def change(self, changes):
        ask_changes(self.picture, changes)
        touched = self.numbers_touched(changes)
        self.picture = with_shades(self.picture, changes)
        if len(touched) == 0:
            return (0, 0)
        return (min(touched), self.set_anew(min(touched), max(touched)))

    def numbers_touched(self, changes):
        touched = []
        # Only the last one of a cell's changes counts: it may lead back to the shade that was there.
        for cell, shade in dict(changes).items():
            if cell in self.numbers and shade_at(self.picture, cell) != shade:
                touched.append(self.numbers[cell])
        return touched

    def set_anew(self, first, touched_last):
        entries = self.entries[:first]
        while len(entries) <= touched_last or not self.goes_on_as_before(entries):
            cell = self.entries[len(entries)][0]
            entries.append(entry_behind(entries, cell, shade_at(self.picture, cell), self.shares, self.inks))
        last = len(entries)
        self.entries = entries + self.entries[last:]
        return last

    def goes_on_as_before(self, entries):
        last = len(entries)
        if last == len(self.entries):
            return True
        if entries[-1][ODD] != self.entries[last - 1][ODD]:
            return False
        start = max(0, last - len(self.shares))
        return lefts_of(entries[start:]) == lefts_of(self.entries[start:last])


def lefts_of(entries):
    return [entry[LEFT] for entry in entries]


def ask_changes(picture, changes):
    for cell, shade in changes:
        ask_cell(picture, cell)
    for cell, shade in changes:
        if shade < 0 or shade > picture.most:
            raise NoShade("a shade is below 0 or above the most")

"""What is left over at a cell handed on along a way, so that it is never lost."""

from dotscreen.errors import NoShares
from dotscreen.pictures import laid_out, shade_at, size_of
from dotscreen.screens import ask_inks, ask_rising

# The places at which an entry of the ledger (cell, got, ink, left, odd) has what is handed on.
LEFT = 3
ODD = 4


def ask_shares(shares):
    if sum(shares) < 1 or min(shares) < 0:
        raise NoShares("there is nothing to share by, or a share is below 0")


def handed(picture, way, shares, inks):
    return dots_of(picture, ledger(picture, way, shares, inks))


def dots_of(picture, entries):
    return laid_out(picture.most, size_of(picture), [(cell, ink) for cell, got, ink, left, odd in entries])


def ledger(picture, way, shares, inks):
    ask_shares(shares)
    ask_inks(inks, picture.most)
    size = size_of(picture)
    entries = []
    for cell in way.order(size[0], size[1]):
        entries.append(entry_behind(entries, cell, shade_at(picture, cell), shares, inks))
    return entries


def entry_behind(entries, cell, shade, shares, inks):
    due = entries[-1][ODD] if len(entries) > 0 else 0
    for back, share in enumerate(shares[:len(entries)], start=1):
        due = due + share * entries[-back][LEFT]
    return entry_of(cell, shade, due, sum(shares), inks)


def entry_of(cell, shade, due, whole, inks):
    got = due // whole
    ink = nearest_ink(shade + got, inks)
    return (cell, got, ink, shade + got - ink, due % whole)


def nearest_ink(want, inks):
    # Of two as near the first is taken, and the inks rise.
    return min(inks, key=lambda ink: abs(want - ink))


def bound_of(shares, inks):
    ask_shares(shares)
    ask_rising(inks)
    half = max([greater - lesser for lesser, greater in zip(inks[:-1], inks[1:])]) // 2
    weight = sum([place * share for place, share in enumerate(shares, start=1)])
    whole = sum(shares)
    return (half * weight + whole - 1) // whole

"""From text to answer: pictures made to dots, both as texts."""

from dotscreen.handing import handed
from dotscreen.notes import read_numbers, read_picture, read_tile, written_picture
from dotscreen.screens import screened
from dotscreen.ways import way_by


def screened_text(picture_text, tile_text, inks_text):
    picture = read_picture(picture_text)
    tile = read_tile(tile_text)
    inks = read_numbers(inks_text)
    return written_picture(screened(picture, tile, inks))


def handed_text(picture_text, word, shares_text, inks_text):
    way = way_by(word)
    picture = read_picture(picture_text)
    shares = read_numbers(shares_text)
    inks = read_numbers(inks_text)
    return written_picture(handed(picture, way, shares, inks))

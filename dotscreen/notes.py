"""Texts of pictures, tiles and numbers, written and read."""

from dotscreen.errors import NoText
from dotscreen.pictures import Picture
from dotscreen.tiles import Tile

FIGURES = "0123456789"
MOST_FIGURES = 30


def written_picture(picture):
    return written_rows(picture.most, picture.rows)


def written_tile(tile):
    return written_rows(tile.count, tile.rows)


def written_rows(head, rows):
    return "\n".join([str(head)] + [written_numbers(row) for row in rows])


def written_numbers(numbers):
    return " ".join([str(number) for number in numbers])


def read_picture(text):
    rows = read_rows(text)
    return Picture(rows[0][0], rows[1:])


def read_tile(text):
    rows = read_rows(text)
    return Tile(rows[0][0], rows[1:])


def read_numbers(text):
    rows = text.split("\n")
    numbers = numbers_in(rows[0], 0)
    if len(rows) > 1:
        raise NoText(1)
    return numbers


def read_rows(text):
    rows = []
    for line, row in enumerate(text.split("\n")):
        numbers = numbers_in(row, line)
        if line == 0 and len(numbers) > 1:
            raise NoText(0)
        rows.append(numbers)
    if len(rows) == 1:
        raise NoText(1)
    return rows


def numbers_in(row, line):
    words = row.split(" ")
    for word in words:
        if not is_number(word):
            raise NoText(line)
    return [int(word) for word in words]


def is_number(word):
    if len(word) < 1 or len(word) > MOST_FIGURES:
        return False
    if word[0] == "0" and len(word) > 1:
        return False
    return all([sign in FIGURES for sign in word])

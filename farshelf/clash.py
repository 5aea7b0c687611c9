"""Clash names: by them stands in folder 1 what has no other place."""

LETTERS = "abcdefghijklmnopqrstuvwxyz"


# "" for 0, then a, b .. z, aa, ab .. zz.
def tail(place):
    letters = ""
    left = place
    while left > 0:
        letters = LETTERS[(left - 1) % len(LETTERS)] + letters
        left = (left - 1) // len(LETTERS)
    return letters


# entries: those that folder 1 has.
def clash_name(entries, number):
    place = 0
    while f"c{number}" + tail(place) in entries:
        place += 1
    return f"c{number}" + tail(place)

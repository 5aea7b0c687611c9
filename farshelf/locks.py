"""Locks of stretches: hands hold stretches of files to read or to write, and wish for what others hold.

A stretch is from low to below high. The stretches of a file are rows (low, high, sort, hand).
"""

from farshelf.errors import Ring, Waiting


def meet(low, high, other_low, other_high):
    return max(low, other_low) < min(high, other_high)


def are_against(row, other):
    if row[3] == other[3] or "write" not in (row[2], other[2]):
        return False
    return meet(row[0], row[1], other[0], other[1])


def against(rows):
    for i in range(len(rows)):
        for k in range(i + 1, len(rows)):
            if are_against(rows[i], rows[k]):
                return (i, k)
    return None


# What stays of a row where its places from low to below high are taken out.
def row_without(row, low, high):
    if not meet(row[0], row[1], low, high):
        return [row]
    parts = [(row[0], low, row[2], row[3]), (high, row[1], row[2], row[3])]
    return [part for part in parts if part[0] < part[1]]


def let_go(locks, hand, file, low, high):
    rows = []
    for row in locks.stretches.get(file, []):
        if row[3] == hand:
            rows.extend(row_without(row, low, high))
        else:
            rows.append(row)
    locks.stretches[file] = rows


def touch(row, other):
    return row[2] == other[2] and row[3] == other[3] and (row[1] == other[0] or other[1] == row[0])


# Rows that touch become one, so that each row is always as long as can be. A row without a place is not kept.
def hold(locks, file, row):
    if row[0] >= row[1]:
        return
    let_go(locks, row[3], file, row[0], row[1])
    rows = locks.stretches[file]
    touched = [other for other in rows if touch(row, other)]
    low = min([row[0]] + [other[0] for other in touched])
    high = max([row[1]] + [other[1] for other in touched])
    locks.stretches[file] = [other for other in rows if not touch(row, other)] + [(low, high, row[2], row[3])]


def holders_against(locks, file, row):
    return sorted(set([other[3] for other in locks.stretches.get(file, []) if are_against(row, other)]))


# Each hand of a way but the first is one for which the hand ahead of it waits. There was no ring ahead
# of this wish, so a ring by it goes through the asker.
def ring_through(locks, asker, holders):
    ways = [[asker, holder] for holder in holders]
    reached = {}
    while ways:
        way = ways.pop(0)
        for hand in waited_for(locks, way[-1]):
            if hand == asker:
                return way
            if hand not in reached:
                reached[hand] = True
                ways.append(way + [hand])
    return None


def first_to_hold(locks):
    for wish in locks.wished:
        if holders_against(locks, wish[0], wish[1]) == []:
            return wish
    return None


# Begun anew with the eldest behind each: who holds to write and comes to hold to read makes room for elder wishes.
def hold_wishes(locks):
    hands = []
    wish = first_to_hold(locks)
    while wish is not None:
        locks.wished.remove(wish)
        hold(locks, wish[0], wish[1])
        hands.append(wish[1][3])
        wish = first_to_hold(locks)
    return hands


class Locks:
    # stretches: by file the rows that are held; wished: (file, row) of each wish, the eldest first.
    def __init__(self):
        self.stretches = {}
        self.wished = []

    def take(self, hand, file, sort, low, high):
        if hand in [wish[1][3] for wish in self.wished]:
            raise Waiting(f"hand {hand} has a wish")
        row = (low, high, sort, hand)
        holders = holders_against(self, file, row)
        if holders == []:
            hold(self, file, row)
            return ("held", hold_wishes(self))
        ring = ring_through(self, hand, holders)
        if ring is not None:
            raise Ring(ring)
        self.wished.append((file, row))
        return ("waits", holders)

    def free(self, hand, file, low, high):
        let_go(self, hand, file, low, high)
        return hold_wishes(self)

    def leave(self, hand):
        for file in list(self.stretches):
            self.stretches[file] = [row for row in self.stretches[file] if row[3] != hand]
        self.wished = [wish for wish in self.wished if wish[1][3] != hand]
        return hold_wishes(self)


def held(locks, file):
    return sorted(locks.stretches.get(file, []))


def wishes(locks):
    return [(row[3], file, row[2], row[0], row[1]) for file, row in locks.wished]


def waited_for(locks, hand):
    for file, row in locks.wished:
        if row[3] == hand:
            return holders_against(locks, file, row)
    return []

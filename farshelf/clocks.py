"""Clocks that grow within bounds, and how long a lease may be held by them.

Bounds are a tuple (a, b, c, d), 0 < a <= b and 0 < d <= c: while a true span s
goes by, a clock grows by g with s * a <= g * b and g * d <= s * c.
"""


def divided_up(number, by):
    return (number + by - 1) // by


def shortest_span(bounds, growth):
    return divided_up(growth * bounds[3], bounds[2])


def least_growth(bounds, span):
    return divided_up(span * bounds[0], bounds[1])


def within(bounds, s, g):
    return s * bounds[0] <= g * bounds[1] and g * bounds[3] <= s * bounds[2]


# The bounds are linear, so pieces added up part by part are one piece within them: no list
# of pieces lets the hand's clock grow by less than this one does while the master counts kept.
def worst_piece(bounds, kept):
    span = shortest_span(bounds, kept)
    return (span, kept, least_growth(bounds, span))


def overrun(bounds, kept, held):
    piece = worst_piece(bounds, kept)
    if piece[2] < held:
        return [piece]
    return None


def shows_overrun(bounds, kept, held, pieces):
    counted = 0
    grown = 0
    for s, g, h in pieces:
        if not (within(bounds, s, g) and within(bounds, s, h)):
            return False
        counted += g
        grown += h
    return counted >= kept and grown < held


def longest(bounds, kept):
    return worst_piece(bounds, kept)[2]

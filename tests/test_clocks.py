import unittest

from farshelf.clocks import longest, overrun, shows_overrun, within

EVEN = (1, 1, 1, 1)
TWELVE = (987654321098, 987654321099, 123456789013, 123456789012)
THIRTY = (123456789012345678901234567890, 123456789012345678901234567899,
          987654321098765432109876543219, 987654321098765432109876543210)
LARGE = (
    TWELVE,
    THIRTY,
    (1, 999999999999, 999999999999, 1),
    (1, 10 ** 29, 10 ** 29, 1),
    (999999999999, 999999999999, 999999999999, 999999999999),
    (7, 7, 10 ** 29 + 1, 10 ** 29),
    (10 ** 29 - 1, 10 ** 29, 3, 3),
)
NUMBERS = (1, 2, 9, 123456789012, 999999999999, 123456789012345678901234567890, 10 ** 30 - 1)


def small_bounds(most):
    found = []
    for b in range(1, most + 1):
        for a in range(1, b + 1):
            for c in range(1, most + 1):
                for d in range(1, c + 1):
                    found.append((a, b, c, d))
    return found


def small_pieces(bounds, most_h):
    a, b, c, d = bounds
    pieces = []
    for h in range(1, most_h + 1):
        for s in range(1, h * b // a + 1):
            if s * a <= h * b and h * d <= s * c:
                for g in range(s * c // d + 1):
                    if s * a <= g * b and g * d <= s * c:
                        pieces.append((s, g, h))
    return pieces


def most_counted(bounds, most_h):
    """By plain search: for each h from 0 on, the most that a master counts by pieces whose h's make it up."""
    pieces = small_pieces(bounds, most_h)
    most = [0]
    for total in range(1, most_h + 1):
        most.append(max([most[total - h] + g for s, g, h in pieces if h <= total] + [0]))
    return most


class Within(unittest.TestCase):
    def test_ends_and_one_beside(self):
        # (bounds, span, the least growth, the greatest)
        for bounds, s, least, greatest in (
            (EVEN, 7, 7, 7),
            ((3, 3, 5, 5), 7, 7, 7),
            ((1, 2, 3, 2), 5, 3, 7),
            ((1, 2, 3, 2), 4, 2, 6),
            ((2, 3, 1, 1), 4, 3, 4),
            ((1, 1, 4, 3), 4, 4, 5),
            ((1, 9, 9, 1), 9, 1, 81),
            ((9, 10, 11, 10), 100000000000, 90000000000, 110000000000),
            ((9, 10, 11, 10), 999999999999, 900000000000, 1099999999998),
            ((9, 10, 11, 10), 10 ** 30 - 1, 9 * 10 ** 29, 11 * 10 ** 29 - 2),
            ((2, 3, 4, 3), 10 ** 29, 66666666666666666666666666667, 133333333333333333333333333333),
        ):
            with self.subTest(bounds=bounds, s=s):
                self.assertIs(within(bounds, s, least), True)
                self.assertIs(within(bounds, s, greatest), True)
                self.assertIs(within(bounds, s, least - 1), False)
                self.assertIs(within(bounds, s, greatest + 1), False)
                self.assertIs(within(bounds, s, s), True)

    def test_a_span_of_nought(self):
        for bounds in (EVEN, (1, 9, 9, 1), TWELVE, THIRTY):
            with self.subTest(bounds=bounds):
                self.assertIs(within(bounds, 0, 0), True)
                self.assertIs(within(bounds, 0, 1), False)
                self.assertIs(within(bounds, 0, 10 ** 30), False)

    def test_a_growth_of_nought(self):
        for bounds in (EVEN, (1, 9, 9, 1), (1, 10 ** 29, 1, 1), THIRTY):
            with self.subTest(bounds=bounds):
                self.assertIs(within(bounds, 1, 0), False)
                self.assertIs(within(bounds, 10 ** 30, 0), False)

    def test_ends_with_large_bounds(self):
        for bounds in LARGE:
            a, b, c, d = bounds
            for s in NUMBERS:
                with self.subTest(bounds=bounds, s=s):
                    least = -(-s * a // b)
                    greatest = s * c // d
                    self.assertIs(within(bounds, s, least), True)
                    self.assertIs(within(bounds, s, least - 1), False)
                    self.assertIs(within(bounds, s, greatest), True)
                    self.assertIs(within(bounds, s, greatest + 1), False)

    def test_every_small_growth(self):
        for bounds in small_bounds(4):
            a, b, c, d = bounds
            for s in range(7):
                for g in range(30):
                    wanted = s * a <= g * b and g * d <= s * c
                    self.assertIs(within(bounds, s, g), wanted, (bounds, s, g))


class OverrunCase(unittest.TestCase):
    def check_pieces(self, bounds, kept, held, pieces):
        a, b, c, d = bounds
        self.assertIsInstance(pieces, list)
        for piece in pieces:
            self.assertIsInstance(piece, tuple)
            self.assertEqual(len(piece), 3)
            s = piece[0]
            for number in piece:
                self.assertIs(type(number), int)
                self.assertGreaterEqual(number, 0)
            for growth in piece[1:]:
                self.assertLessEqual(s * a, growth * b)
                self.assertLessEqual(growth * d, s * c)
        self.assertGreaterEqual(sum([g for s, g, h in pieces]), kept)
        self.assertLess(sum([h for s, g, h in pieces]), held)
        self.assertIs(shows_overrun(bounds, kept, held, pieces), True)

    def check_edge(self, bounds, kept):
        edge = longest(bounds, kept)
        self.assertIs(type(edge), int)
        self.assertGreaterEqual(edge, 1)
        self.assertIsNone(overrun(bounds, kept, edge))
        self.check_pieces(bounds, kept, edge + 1, overrun(bounds, kept, edge + 1))


class OverrunAndLongest(OverrunCase):
    def test_known_ends(self):
        for bounds, kept, edge in (
            (EVEN, 1, 1),
            (EVEN, 10, 10),
            ((4, 4, 6, 6), 10, 10),
            ((1, 2, 1, 1), 10, 5),
            ((1, 1, 2, 1), 10, 5),
            ((1, 2, 2, 1), 10, 3),
            ((9, 10, 11, 10), 100, 82),
            ((1, 2, 3, 2), 7, 3),
            ((1, 9, 9, 1), 1, 1),
            ((1, 9, 9, 1), 9, 1),
            ((1, 9, 9, 1), 81, 1),
            ((1, 9, 9, 1), 82, 2),
            ((9, 10, 11, 10), 110000000000, 90000000000),
            ((9, 10, 11, 10), 110000000001, 90000000001),
            ((9, 10, 11, 10), 11 * 10 ** 29, 9 * 10 ** 29),
            ((9, 10, 11, 10), 11 * 10 ** 29 + 1, 9 * 10 ** 29 + 1),
        ):
            with self.subTest(bounds=bounds, kept=kept):
                self.assertEqual(longest(bounds, kept), edge)
                self.check_edge(bounds, kept)

    def test_spans_are_whole(self):
        # 2 * 2 / 3 true spans would do for kept 2, and 2 * 2 / 3 * 3 / 4 = 1 of growth: whole ones need more.
        self.assertEqual(longest((3, 4, 3, 2), 2), 2)
        self.assertIsNone(overrun((3, 4, 3, 2), 2, 2))

    def test_kept_and_held_one(self):
        for bounds in small_bounds(4) + list(LARGE):
            with self.subTest(bounds=bounds):
                self.assertIsNone(overrun(bounds, 1, 1))
                self.assertEqual(longest(bounds, 1), 1)
                self.check_pieces(bounds, 1, 2, overrun(bounds, 1, 2))

    def test_held_one_never_overruns(self):
        for bounds in LARGE:
            for kept in NUMBERS:
                self.assertIsNone(overrun(bounds, kept, 1))

    def test_large_numbers(self):
        for bounds in LARGE + (EVEN, (1, 2, 3, 2), (9, 10, 11, 10)):
            for kept in NUMBERS:
                with self.subTest(bounds=bounds, kept=kept):
                    self.check_edge(bounds, kept)
                    edge = longest(bounds, kept)
                    self.check_pieces(bounds, kept, edge + 10 ** 30, overrun(bounds, kept, edge + 10 ** 30))

    def test_very_many_figures(self):
        big = 10 ** 5000
        bounds = (big - 1, big, big + 1, big)
        self.assertIsNone(overrun(bounds, big, longest(bounds, big)))
        pieces = overrun(bounds, big, longest(bounds, big) + 1)
        self.assertTrue(shows_overrun(bounds, big, longest(bounds, big) + 1, pieces))

    def test_against_plain_search(self):
        for bounds in small_bounds(4):
            most = most_counted(bounds, 7)
            for kept in range(1, 9):
                edge = None
                for held in range(1, 9):
                    told = overrun(bounds, kept, held)
                    if max(most[:held]) >= kept:
                        self.check_pieces(bounds, kept, held, told)
                    else:
                        self.assertIsNone(told, (bounds, kept, held))
                        edge = held
                if edge < 8:
                    self.assertEqual(longest(bounds, kept), edge, (bounds, kept))
                else:
                    self.assertGreaterEqual(longest(bounds, kept), edge, (bounds, kept))

    def test_the_list_told_is_the_askers_own(self):
        for bounds, kept in ((EVEN, 3), ((1, 2, 3, 2), 7), (THIRTY, 10 ** 29)):
            held = longest(bounds, kept) + 1
            told = overrun(bounds, kept, held)
            before = list(told)
            told.clear()
            told.append("other")
            again = overrun(bounds, kept, held)
            self.assertEqual(again, before)
            self.assertIsNot(again, told)
            self.check_pieces(bounds, kept, held, again)
            self.assertEqual(longest(bounds, kept), held - 1)


class ShowsOverrun(OverrunCase):
    BOUNDS = (1, 2, 3, 2)

    def told(self, kept, held, pieces, wanted):
        with self.subTest(kept=kept, held=held, pieces=pieces):
            before = list(pieces)
            self.assertIs(shows_overrun(self.BOUNDS, kept, held, pieces), wanted)
            self.assertEqual(pieces, before)
            self.assertIs(shows_overrun(self.BOUNDS, kept, held, pieces), wanted)

    def test_no_piece(self):
        self.told(1, 1, [], False)
        self.told(1, 10 ** 30, [], False)

    def test_one_piece(self):
        self.told(6, 3, [(4, 6, 2)], True)
        self.told(5, 3, [(4, 6, 2)], True)
        self.told(6, 4, [(4, 6, 2)], True)
        self.told(6, 3, [(0, 0, 0)], False)

    def test_the_gs_one_less_than_kept(self):
        self.told(7, 3, [(4, 6, 2)], False)
        self.told(9, 5, [(4, 6, 2), (2, 2, 1)], False)
        self.told(8, 5, [(4, 6, 2), (2, 2, 1)], True)

    def test_the_hs_just_held(self):
        self.told(6, 2, [(4, 6, 2)], False)
        self.told(8, 3, [(4, 6, 2), (2, 2, 1)], False)
        self.told(8, 4, [(4, 6, 2), (2, 2, 1)], True)

    def test_several_pieces(self):
        self.told(12, 5, [(4, 6, 2), (4, 6, 2)], True)
        self.told(12, 5, [(4, 6, 2), (0, 0, 0), (4, 6, 2)], True)
        self.told(13, 5, [(4, 6, 2), (4, 6, 2)], False)
        self.told(3, 4, [(1, 1, 1)] * 3, True)

    def test_a_piece_beside_the_bounds(self):
        good = (4, 6, 2)
        self.told(6, 10, [good], True)
        for bad in ((4, 7, 2), (4, 1, 2), (4, 6, 1), (4, 6, 7), (3, 6, 2), (5, 6, 2), (0, 1, 0), (0, 0, 1)):
            self.told(1, 20, [bad], False)
            self.told(1, 20, [bad, good], False)
            self.told(1, 20, [good, bad], False)
            self.told(1, 20, [good, bad, good], False)

    def test_pieces_together_within_but_not_each(self):
        # Added up they are (8, 8, 8), but each one must keep to the bounds by itself.
        self.told(8, 9, [(4, 7, 4), (4, 1, 4)], False)

    def test_large_numbers(self):
        for bounds in LARGE:
            a, b, c, d = bounds
            for s in NUMBERS:
                g = s * c // d
                h = -(-s * a // b)
                with self.subTest(bounds=bounds, s=s):
                    self.assertIs(shows_overrun(bounds, g, h + 1, [(s, g, h)]), True)
                    self.assertIs(shows_overrun(bounds, 2 * g, 2 * h + 1, [(s, g, h)] * 2), True)
                    self.assertIs(shows_overrun(bounds, g + 1, h + 1, [(s, g, h)]), False)
                    self.assertIs(shows_overrun(bounds, g, h, [(s, g, h)]), False)
                    self.assertIs(shows_overrun(bounds, g, h + 1, [(s, g + 1, h)]), False)
                    self.assertIs(shows_overrun(bounds, g, h + 1, [(s, g, h - 1)]), False)

    def test_every_small_piece(self):
        for bounds in small_bounds(2):
            a, b, c, d = bounds
            for s in range(4):
                for g in range(7):
                    for h in range(7):
                        inside = s * a <= g * b and g * d <= s * c and s * a <= h * b and h * d <= s * c
                        self.assertIs(shows_overrun(bounds, 2, 3, [(s, g, h)]), inside and g >= 2 and h < 3)


if __name__ == "__main__":
    unittest.main()

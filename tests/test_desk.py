import copy
import random
import unittest

from farshelf.desk import Desk, calls_due, keeps, sessions
from farshelf.locks import Locks, against, held, wishes
from farshelf.shelf import Shelf, paths_of, rows_of

SPAN = 100
BEGIN = ("begin",)


class DeskCase(unittest.TestCase):
    """Hands ask in their session 1 at the time self.now, each with its next number."""

    def setUp(self):
        self.desk = Desk(SPAN)
        self.now = 0
        self.numbers = {}
        self.session = {}

    def begin(self, *hands, session=1):
        for hand in hands:
            self.numbers[hand] = 0
            self.session[hand] = session
            self.row(("ask", self.now, hand, session, 0, BEGIN), [(hand, session, 0, ("begun",))])

    def row(self, row, answers=(), calls=()):
        with self.subTest(row=row):
            self.assertEqual(self.desk.do(row), (list(answers), list(calls)))

    def ask_row(self, hand, request):
        self.numbers[hand] += 1
        return ("ask", self.now, hand, self.session[hand], self.numbers[hand], request)

    def to(self, hand, answer):
        return (hand, self.session[hand], self.numbers[hand], answer)

    def asks(self, hand, request, answer):
        row = self.ask_row(hand, request)
        self.row(row, [self.to(hand, answer)])

    def waits(self, hand, request, calls=()):
        self.row(self.ask_row(hand, request), [], calls)

    def backs(self, hand, file, stamp, *answers):
        self.row(("back", self.now, hand, self.session[hand], file, stamp), answers)

    def opens(self, hand, file):
        """Opens file by its first path, and tells the stamp."""
        path = paths_of(self.desk.shelf, file)[0]
        answers, calls = self.desk.do(self.ask_row(hand, ("open", path)))
        self.assertEqual(len(answers), 1)
        self.assertEqual(answers[0][3][:2], ("file", file))
        return answers[0][3][4]

    def make_file(self, hand, path, content=""):
        answers, calls = self.desk.do(self.ask_row(hand, ("make", path, content)))
        self.assertEqual(answers[0][3][0], "made")
        return answers[0][3][1]

    def file(self, number):
        return [row[2:] for row in rows_of(self.desk.shelf) if row[:2] == ("file", number)]

    def living(self):
        return [row[0] for row in sessions(self.desk)]


class New(DeskCase):
    def test_fields(self):
        self.assertIsInstance(self.desk.shelf, Shelf)
        self.assertIsInstance(self.desk.locks, Locks)
        self.assertEqual(self.desk.place, 0)
        self.assertEqual(rows_of(self.desk.shelf), rows_of(Shelf()))

    def test_nothing_is_told(self):
        self.assertEqual(calls_due(self.desk), [])
        self.assertEqual(sessions(self.desk), [])
        self.assertEqual(keeps(self.desk), [])

    def test_place_is_that_of_the_last_row(self):
        rows = (("lead", 0, 5), ("time", 6), ("ask", 7, 1, 1, 0, BEGIN), ("ask", 7, 1, 0, 0, BEGIN),
                ("back", 8, 1, 1, 2, 3), ("back", 8, 9, 1, 2, 3), ("time", 6))
        for place, row in enumerate(rows, start=1):
            self.desk.do(row)
            self.assertEqual(self.desk.place, place)

    def test_kinds(self):
        told = self.desk.do(("ask", 0, 1, 1, 0, BEGIN))
        self.assertIsInstance(told, tuple)
        self.assertIsInstance(told[0], list)
        self.assertIsInstance(told[1], list)
        self.assertIsInstance(told[0][0], tuple)

    def test_rows_that_tell_nothing(self):
        self.row(("lead", 0, 5))
        self.row(("time", 6))
        self.row(("back", 7, 1, 1, 2, 3))


class Sessions(DeskCase):
    def test_begun(self):
        self.now = 7
        self.begin(2)
        self.now = 9
        self.begin(1, session=5)
        self.assertEqual(sessions(self.desk), [(1, 5, 109), (2, 1, 107)])

    def test_of_no_session(self):
        for session, number in ((0, 0), (0, 1), (-1, 0), (1, 1), (5, 3), (1, -1)):
            self.row(("ask", 0, 1, session, number, ("look",)), [(1, session, number, ("ended",))])
        self.assertEqual(sessions(self.desk), [])

    def test_less_and_greater_than_the_greatest(self):
        self.begin(1, session=5)
        for session, number in ((4, 0), (4, 1), (0, 0), (6, 1), (7, 5)):
            self.row(("ask", 50, 1, session, number, ("look",)), [(1, session, number, ("ended",))])
        self.assertEqual(sessions(self.desk), [(1, 5, 100)])
        self.row(("ask", 50, 1, 9, 0, BEGIN), [(1, 9, 0, ("begun",))])
        self.assertEqual(sessions(self.desk), [(1, 9, 150)])
        self.row(("ask", 50, 1, 5, 1, ("look",)), [(1, 5, 1, ("ended",))])
        self.row(("ask", 50, 1, 9, 1, ("look",)), [(1, 9, 1, ("ok",))])

    def test_hands_are_apart(self):
        self.begin(1, session=5)
        self.begin(2, session=1)
        self.asks(2, ("look",), ("ok",))

    def test_ended_by_time(self):
        self.begin(1)
        self.row(("time", 99))
        self.assertEqual(sessions(self.desk), [(1, 1, 100)])
        self.row(("time", 100))
        self.assertEqual(sessions(self.desk), [])
        for number in (0, 1):
            self.row(("ask", 0, 1, 1, number, ("look",)), [(1, 1, number, ("ended",))])
        self.assertEqual(sessions(self.desk), [])
        self.row(("ask", 0, 1, 2, 0, BEGIN), [(1, 2, 0, ("begun",))])

    def test_ended_by_the_time_of_each_row_but_lead(self):
        for row in (("time", 100), ("back", 100, 2, 1, 2, 3), ("ask", 100, 2, 1, 5, ("look",)), ("time", 1000)):
            self.setUp()
            self.begin(1)
            self.desk.do(row)
            self.assertEqual(sessions(self.desk), [])
        self.setUp()
        self.begin(1)
        self.row(("lead", 0, 1000))
        self.assertEqual(sessions(self.desk), [(1, 1, 1100)])

    def test_ended_ahead_of_the_rows_own_ask(self):
        self.begin(1)
        self.now = 100
        self.asks(1, ("look",), ("ended",))
        self.setUp()
        self.begin(1)
        self.now = 99
        self.asks(1, ("look",), ("ok",))

    def test_each_ask_of_the_one_that_lives_sets_the_end(self):
        self.begin(1)
        for time, number in ((10, 1), (20, 1), (30, 0), (40, 7), (35, 2)):
            self.desk.do(("ask", time, 1, 1, number, ("look",)))
            self.assertEqual(sessions(self.desk), [(1, 1, time + SPAN)])
        for session in (0, 2):
            self.desk.do(("ask", 60, 1, session, 1, ("look",)))
            self.assertEqual(sessions(self.desk), [(1, 1, 135)])

    def test_back_sets_no_end(self):
        self.begin(1)
        self.row(("back", 50, 1, 1, 2, 3))
        self.assertEqual(sessions(self.desk), [(1, 1, 100)])

    def test_lead_sets_all_ends_anew(self):
        self.begin(3)
        self.now = 60
        self.begin(1, 2)
        self.row(("time", 110))
        self.assertEqual(sessions(self.desk), [(1, 1, 160), (2, 1, 160)])
        self.row(("lead", 2, 20))
        self.assertEqual(sessions(self.desk), [(1, 1, 120), (2, 1, 120)])
        self.row(("lead", 0, 5000))
        self.assertEqual(sessions(self.desk), [(1, 1, 5100), (2, 1, 5100)])
        self.row(("ask", 5000, 3, 1, 1, ("look",)), [(3, 1, 1, ("ended",))])

    def test_who_ends_loses_its_keeps_and_its_waiting_ask(self):
        self.begin(1, 2, 3)
        file = self.make_file(1, "/f")
        other = self.make_file(1, "/g")
        stamp = self.opens(1, file)
        own = self.opens(2, other)
        self.waits(2, ("shut", file, 0, "two"), [(1, file, stamp)])
        self.assertEqual(calls_due(self.desk), [(1, file, stamp)])
        self.now = 50
        self.asks(1, ("look",), ("ok",))
        self.asks(3, ("look",), ("ok",))
        self.assertEqual(keeps(self.desk), [(1, file, stamp), (2, other, own)])
        self.row(("time", 100))
        self.assertEqual(self.living(), [1, 3])
        self.assertEqual(keeps(self.desk), [(1, file, stamp)])
        self.assertEqual(calls_due(self.desk), [])
        self.row(("back", 100, 1, 1, file, stamp))
        self.assertEqual(self.file(file), [(0, "")])

    def test_who_ends_makes_room_for_a_shut(self):
        self.begin(1, 2)
        file = self.make_file(1, "/f")
        stamp = self.opens(1, file)
        self.now = 50
        self.waits(2, ("shut", file, 0, "two"), [(1, file, stamp)])
        self.row(("time", 99))
        self.row(("time", 100), [self.to(2, ("shut", 1, self.desk.place + 1))])
        self.assertEqual(keeps(self.desk), [(2, file, self.desk.place)])

    def test_a_greater_session_ends_the_one_that_lives(self):
        self.begin(1, 2)
        file = self.make_file(1, "/f")
        stamp = self.opens(1, file)
        self.waits(2, ("shut", file, 0, "two"), [(1, file, stamp)])
        waiting = self.to(2, ("shut", 1, self.desk.place + 1))
        self.row(("ask", 0, 1, 2, 0, BEGIN), [(1, 2, 0, ("begun",)), waiting])
        self.assertEqual(keeps(self.desk), [(2, file, self.desk.place)])
        self.assertEqual(sessions(self.desk), [(1, 2, 100), (2, 1, 100)])

    def test_a_greater_session_drops_the_waiting_ask(self):
        self.begin(1, 2)
        file = self.make_file(1, "/f")
        stamp = self.opens(1, file)
        self.waits(2, ("shut", file, 0, "two"), [(1, file, stamp)])
        self.begin(2, session=2)
        self.assertEqual(calls_due(self.desk), [])
        self.backs(1, file, stamp)
        self.assertEqual(self.file(file), [(0, "")])
        self.asks(2, ("look",), ("ok",))


class Endings(DeskCase):
    """Stretches and wishes of those who end."""

    def setUp(self):
        DeskCase.setUp(self)
        self.begin(1, 2, 3, 4)
        self.low = self.make_file(1, "/f")

    def live_on(self, *hands):
        self.now = 50
        for hand in hands:
            self.row(("ask", 50, hand, 1, 99, ("look",)))

    def test_one_behind_the_other_hands_rising(self):
        self.asks(2, ("lock", self.low, "write", 0, 5), ("held",))
        self.asks(1, ("lock", self.low, "write", 5, 9), ("held",))
        self.waits(3, ("lock", self.low, "write", 0, 5))
        self.waits(4, ("lock", self.low, "write", 5, 9))
        self.live_on(3, 4)
        self.row(("time", 100), [self.to(4, ("held",)), self.to(3, ("held",))])
        self.assertEqual(held(self.desk.locks, self.low), [(0, 5, "write", 3), (5, 9, "write", 4)])

    def test_a_wish_that_is_held_and_then_ends(self):
        self.asks(1, ("lock", self.low, "write", 0, 5), ("held",))
        self.waits(2, ("lock", self.low, "write", 0, 5))
        self.waits(3, ("lock", self.low, "write", 0, 5))
        self.live_on(3)
        self.row(("time", 100), [self.to(2, ("held",)), self.to(3, ("held",))])
        self.assertEqual(self.living(), [3])
        self.assertEqual(held(self.desk.locks, self.low), [(0, 5, "write", 3)])

    def test_a_wish_goes_with_its_hand(self):
        self.asks(2, ("lock", self.low, "write", 0, 5), ("held",))
        self.waits(1, ("lock", self.low, "write", 0, 5))
        self.waits(3, ("lock", self.low, "write", 0, 5))
        self.live_on(3)
        self.row(("time", 100), [self.to(3, ("held",))])
        self.assertEqual(wishes(self.desk.locks), [])

    def test_held_is_told_again(self):
        self.asks(1, ("lock", self.low, "write", 0, 5), ("held",))
        self.waits(2, ("lock", self.low, "write", 0, 5))
        self.live_on(2)
        self.row(("time", 100), [self.to(2, ("held",))])
        self.row(("ask", 101, 2, 1, 1, ("look",)), [(2, 1, 1, ("held",))])

    def test_a_begin_tells_its_own_ahead(self):
        self.asks(1, ("lock", self.low, "write", 0, 5), ("held",))
        self.waits(3, ("lock", self.low, "read", 0, 5))
        self.waits(2, ("lock", self.low, "read", 0, 5))
        self.row(("ask", 0, 1, 2, 0, BEGIN), [(1, 2, 0, ("begun",)), self.to(3, ("held",)), self.to(2, ("held",))])
        self.assertEqual(held(self.desk.locks, self.low), [(0, 5, "read", 2), (0, 5, "read", 3)])

    def test_a_begin_takes_its_own_wish_away(self):
        self.asks(1, ("lock", self.low, "write", 0, 5), ("held",))
        self.waits(2, ("lock", self.low, "read", 0, 5))
        self.begin(2, session=2)
        self.assertEqual(wishes(self.desk.locks), [])
        self.asks(1, ("free", self.low, 0, 5), ("ok",))


class Asks(DeskCase):
    def setUp(self):
        DeskCase.setUp(self)
        self.begin(1)

    def test_told_again(self):
        self.row(("ask", 0, 1, 1, 0, BEGIN), [(1, 1, 0, ("begun",))])
        self.asks(1, ("fold", "/a"), ("made", 2))
        for times in range(2):
            self.row(("ask", 0, 1, 1, 1, ("fold", "/a")), [(1, 1, 1, ("made", 2))])
        self.row(("ask", 0, 1, 1, 1, ("look",)), [(1, 1, 1, ("made", 2))])
        self.assertEqual(len(rows_of(self.desk.shelf)), 3)

    def test_elder_ones_and_ones_beyond(self):
        self.asks(1, ("look",), ("ok",))
        self.asks(1, ("fold", "/a"), ("made", 2))
        for number in (0, 1, 4, 5, -1):
            self.row(("ask", 0, 1, 1, number, ("fold", "/b")))
        self.assertEqual(len(rows_of(self.desk.shelf)), 3)
        self.asks(1, ("fold", "/b"), ("made", 3))

    def test_while_the_last_one_waits(self):
        self.begin(2)
        file = self.make_file(1, "/f")
        stamp = self.opens(1, file)
        self.waits(2, ("shut", file, 0, "x"), [(1, file, stamp)])
        for number in (0, 1, 2):
            self.row(("ask", 0, 2, 1, number, ("look",)))
        self.assertEqual(calls_due(self.desk), [(1, file, stamp)])
        self.backs(1, file, stamp, self.to(2, ("shut", 1, self.desk.place + 1)))
        stamp = self.desk.place
        self.row(("ask", 0, 2, 1, 1, ("look",)), [(2, 1, 1, ("shut", 1, stamp))])
        self.asks(2, ("look",), ("ok",))

    def test_while_a_lock_waits(self):
        self.begin(2)
        file = self.make_file(1, "/f")
        self.asks(1, ("lock", file, "write", 0, 9), ("held",))
        self.waits(2, ("lock", file, "write", 0, 9))
        for number in (0, 1, 2):
            self.row(("ask", 0, 2, 1, number, ("lock", file, "write", 0, 9)))
        self.assertEqual(wishes(self.desk.locks), [(2, file, "write", 0, 9)])

    def test_an_open_told_again_keeps_nothing_anew(self):
        file = self.make_file(1, "/f")
        stamp = self.opens(1, file)
        self.row(("ask", 0, 1, 1, 2, ("open", "/f")), [(1, 1, 2, ("file", file, 0, "", stamp))])
        self.assertEqual(keeps(self.desk), [(1, file, stamp)])
        self.backs(1, file, stamp)
        self.row(("ask", 0, 1, 1, 2, ("open", "/f")), [(1, 1, 2, ("file", file, 0, "", stamp))])
        self.assertEqual(keeps(self.desk), [])

    def test_refused_is_told_again(self):
        self.asks(1, ("drop", "/a"), ("refused", "lacks"))
        self.row(("ask", 0, 1, 1, 1, ("drop", "/a")), [(1, 1, 1, ("refused", "lacks"))])

    def test_the_begin_is_the_ask_whatever_it_asks(self):
        self.row(("ask", 0, 2, 1, 0, ("fold", "/a")), [(2, 1, 0, ("begun",))])
        self.assertEqual(len(rows_of(self.desk.shelf)), 2)


class ByPaths(DeskCase):
    # 2 a folder /a, 3 a folder /a/b, 4 a file /a/f.
    def setUp(self):
        DeskCase.setUp(self)
        self.begin(1)
        self.asks(1, ("fold", "/a"), ("made", 2))
        self.asks(1, ("fold", "/a/b"), ("made", 3))
        self.asks(1, ("make", "/a/f", "x.y"), ("made", 4))

    def refuses(self, request, word):
        rows = rows_of(self.desk.shelf)
        self.asks(1, request, ("refused", word))
        self.assertEqual(rows_of(self.desk.shelf), rows)

    def test_done(self):
        self.asks(1, ("look",), ("ok",))
        self.asks(1, ("link", "/g", 4), ("ok",))
        self.asks(1, ("move", "/a/f", "/a/b/h"), ("ok",))
        self.asks(1, ("make", "/clash/n", ""), ("made", 5))
        self.assertEqual(paths_of(self.desk.shelf, 4), ["/a/b/h", "/g"])
        self.asks(1, ("drop", "/g"), ("ok",))
        self.asks(1, ("move", "/a/b", "/b"), ("ok",))
        self.asks(1, ("drop", "/a"), ("ok",))
        self.assertEqual(rows_of(self.desk.shelf), [
            ("folder", 0, [("b", 3), ("clash", 1)]), ("folder", 1, [("n", 5)]), ("folder", 3, [("h", 4)]),
            ("file", 4, 0, "x.y"), ("file", 5, 0, "")])

    def requests(self, path):
        return (("make", path, ""), ("fold", path), ("link", path, 4), ("drop", path), ("move", path, "/n"),
                ("move", "/a/f", path))

    def test_no_path(self):
        for path in ("", "a", "//", "/a/", "/A", "/a.b", "/abcdefghi", "/a//b"):
            for request in self.requests(path):
                self.refuses(request, "name")

    def test_the_root(self):
        for request in self.requests("/"):
            self.refuses(request, "kept")

    def test_without_a_folder(self):
        for path in ("/n/x", "/a/n/x", "/n/n/n", "/a/f/x/y"):
            for request in self.requests(path):
                self.refuses(request, "lacks")

    def test_path_by_path(self):
        self.refuses(("move", "/n/x", "A"), "lacks")
        self.refuses(("move", "/", "A"), "kept")
        self.refuses(("move", "/", "/n/x"), "kept")
        self.refuses(("move", "/n/x", "/"), "lacks")
        self.refuses(("move", "A", "/"), "name")
        self.refuses(("move", "/a/f", "A"), "name")
        self.refuses(("move", "/n", "/n/x"), "lacks")
        self.refuses(("move", "/n", "/"), "kept")

    def test_ahead_of_the_deeds_own(self):
        self.refuses(("make", "/n/x", "A"), "lacks")
        self.refuses(("make", "/", "A"), "kept")
        self.refuses(("link", "/n/x", 9), "lacks")
        self.refuses(("link", "/", 9), "kept")

    def test_the_deeds_own(self):
        for request, word in (
            (("make", "/n", "A"), "name"), (("make", "/a/f", "A"), "name"), (("make", "/a/f/x", ""), "kind"),
            (("make", "/a", ""), "there"), (("fold", "/a/f/x"), "kind"), (("fold", "/a/b"), "there"),
            (("link", "/n", 9), "gone"), (("link", "/a/f/x", 9), "gone"), (("link", "/n", 2), "kind"),
            (("link", "/a/f", 4), "there"), (("drop", "/n"), "lacks"), (("drop", "/a/f/x"), "kind"),
            (("drop", "/clash"), "kept"), (("drop", "/a"), "full"), (("move", "/n", "/m"), "lacks"),
            (("move", "/a/f/x", "/m"), "kind"), (("move", "/a", "/a/f/x"), "kind"), (("move", "/a", "/a"), "there"),
            (("move", "/clash", "/n"), "kept"), (("move", "/a", "/a/b/n"), "beneath"),
            (("move", "/a", "/a/n"), "beneath"),
        ):
            self.refuses(request, word)


class Seeing(DeskCase):
    # 2 a folder /a, 3 a file /a/f, 4 a file /g.
    def setUp(self):
        DeskCase.setUp(self)
        self.begin(1, 2, 3)
        self.asks(1, ("fold", "/a"), ("made", 2))
        self.asks(1, ("make", "/a/f", "x"), ("made", 3))
        self.asks(1, ("make", "/g", "y"), ("made", 4))

    def test_refused(self):
        for path in ("", "a", "/a/", "/A", "//"):
            self.asks(1, ("open", path), ("refused", "name"))
        for path in ("/n", "/a/n", "/n/n", "/g/n"):
            self.asks(1, ("open", path), ("refused", "lacks"))
        for number in (5, -1, 999999999999):
            self.asks(1, ("see", number), ("refused", "gone"))
        self.assertEqual(keeps(self.desk), [])

    def test_of_a_folder(self):
        self.asks(1, ("open", "/"), ("folder", 0, ["a", "clash", "g"]))
        self.asks(1, ("see", 0), ("folder", 0, ["a", "clash", "g"]))
        self.asks(1, ("open", "/a"), ("folder", 2, ["f"]))
        self.asks(1, ("open", "/clash"), ("folder", 1, []))
        self.asks(1, ("see", 1), ("folder", 1, []))
        self.assertEqual(keeps(self.desk), [])

    def test_of_a_file(self):
        self.asks(1, ("open", "/a/f"), ("file", 3, 0, "x", 7))
        self.asks(2, ("see", 3), ("file", 3, 0, "x", 8))
        self.asks(1, ("see", 4), ("file", 4, 0, "y", 9))
        self.assertEqual(keeps(self.desk), [(1, 3, 7), (1, 4, 9), (2, 3, 8)])

    def test_in_the_place_of_an_elder_keep(self):
        self.assertEqual(self.opens(1, 3), 7)
        self.assertEqual(self.opens(2, 3), 8)
        self.asks(1, ("see", 3), ("file", 3, 0, "x", 9))
        self.assertEqual(keeps(self.desk), [(1, 3, 9), (2, 3, 8)])
        self.backs(1, 3, 7)
        self.assertEqual(keeps(self.desk), [(1, 3, 9), (2, 3, 8)])

    def test_0_where_a_waiting_ask_names_the_file(self):
        stamp = self.opens(1, 3)
        self.waits(2, ("shut", 3, 0, "new"), [(1, 3, stamp)])
        self.asks(3, ("open", "/a/f"), ("file", 3, 0, "x", 0))
        self.asks(3, ("see", 3), ("file", 3, 0, "x", 0))
        self.assertEqual(keeps(self.desk), [(1, 3, stamp)])
        self.asks(3, ("see", 4), ("file", 4, 0, "y", self.desk.place + 1))

    def test_an_elder_keep_stays(self):
        stamp = self.opens(1, 3)
        self.waits(2, ("shut", 3, 0, "new"), [(1, 3, stamp)])
        self.asks(1, ("see", 3), ("file", 3, 0, "x", 0))
        self.assertEqual(keeps(self.desk), [(1, 3, stamp)])
        self.backs(1, 3, 0)
        self.assertEqual(keeps(self.desk), [(1, 3, stamp)])
        self.backs(1, 3, stamp, self.to(2, ("shut", 1, self.desk.place + 1)))

    def test_0_where_a_waiting_join_names_the_file(self):
        stamp = self.opens(1, 3)
        self.waits(2, ("join", (("make", 4, "n", ""), ("shut", 3, 0, "new"), ("shut", 9, 0, ""))), [(1, 3, stamp)])
        self.asks(3, ("see", 3), ("file", 3, 0, "x", 0))
        place = self.desk.place + 1
        self.asks(3, ("see", 4), ("file", 4, 0, "y", place))
        self.assertEqual(keeps(self.desk), [(1, 3, stamp), (3, 4, place)])

    def test_a_waiting_lock_names_no_file(self):
        self.asks(1, ("lock", 3, "write", 0, 9), ("held",))
        self.waits(2, ("lock", 3, "write", 0, 9))
        place = self.desk.place + 1
        self.asks(3, ("see", 3), ("file", 3, 0, "x", place))
        self.assertEqual(keeps(self.desk), [(3, 3, place)])

    def test_a_keep_of_a_file_that_is_gone_stays(self):
        stamp = self.opens(2, 4)
        self.asks(1, ("drop", "/g"), ("ok",))
        self.assertEqual(keeps(self.desk), [(2, 4, stamp)])
        self.backs(2, 4, stamp)
        self.assertEqual(keeps(self.desk), [])


class Shuts(DeskCase):
    # 2 a file /f, 3 a file /g, 4 a folder /a.
    def setUp(self):
        DeskCase.setUp(self)
        self.begin(1, 2, 3, 4)
        self.asks(1, ("make", "/f", "x"), ("made", 2))
        self.asks(1, ("make", "/g", "y"), ("made", 3))
        self.asks(1, ("fold", "/a"), ("made", 4))

    def test_refused_now(self):
        stamp = self.opens(2, 2)
        for request, word in ((("shut", 2, 1, "z"), "stale"), (("shut", 2, 0, "A"), "name"),
                              (("shut", 9, 0, ""), "gone"), (("shut", 4, 0, ""), "kind"),
                              (("shut", 9, 0, "A"), "name"), (("shut", 2, 7, "A"), "name")):
            self.asks(1, request, ("refused", word))
        self.assertEqual(calls_due(self.desk), [])
        self.assertEqual(keeps(self.desk), [(2, 2, stamp)])

    def test_done_where_nobody_keeps_it(self):
        self.asks(1, ("shut", 2, 0, "z"), ("shut", 1, 8))
        self.assertEqual(self.file(2), [(1, "z")])
        self.assertEqual(keeps(self.desk), [(1, 2, 8)])

    def test_done_where_none_but_the_hand_keeps_it(self):
        self.opens(1, 2)
        self.opens(2, 3)
        self.asks(1, ("shut", 2, 0, ""), ("shut", 1, 10))
        self.asks(1, ("shut", 2, 1, "w"), ("shut", 2, 11))
        self.assertEqual(self.file(2), [(2, "w")])
        self.assertEqual(keeps(self.desk), [(1, 2, 11), (2, 3, 9)])

    def test_waits_and_calls_rising(self):
        third = self.opens(3, 2)
        second = self.opens(2, 2)
        own = self.opens(1, 2)
        self.waits(1, ("shut", 2, 0, "z"), [(2, 2, second), (3, 2, third)])
        self.assertEqual(calls_due(self.desk), [(2, 2, second), (3, 2, third)])
        self.assertEqual(self.file(2), [(0, "x")])
        self.backs(3, 2, third)
        self.assertEqual(calls_due(self.desk), [(2, 2, second)])
        self.row(("time", 0))
        self.row(("lead", 0, 0))
        self.backs(2, 2, second, self.to(1, ("shut", 1, self.desk.place + 1)))
        self.assertEqual(self.file(2), [(1, "z")])
        self.assertEqual(keeps(self.desk), [(1, 2, self.desk.place)])
        self.assertNotEqual(own, self.desk.place)
        self.assertEqual(calls_due(self.desk), [])

    def test_back_by_just_that_stamp_file_and_session(self):
        stamp = self.opens(2, 2)
        other = self.opens(2, 3)
        self.waits(1, ("shut", 2, 0, "z"), [(2, 2, stamp)])
        for row in (("back", 0, 2, 1, 2, stamp + 1), ("back", 0, 2, 1, 2, stamp - 1), ("back", 0, 2, 1, 2, 0),
                    ("back", 0, 2, 1, 3, stamp), ("back", 0, 2, 0, 2, stamp), ("back", 0, 2, 2, 2, stamp),
                    ("back", 0, 1, 1, 2, stamp), ("back", 0, 3, 1, 2, stamp), ("back", 0, 9, 1, 2, stamp),
                    ("back", 0, 2, 1, 9, stamp)):
            self.row(row)
            self.assertEqual(keeps(self.desk), [(2, 2, stamp), (2, 3, other)])
        self.backs(2, 2, stamp, self.to(1, ("shut", 1, self.desk.place + 1)))

    def test_back_of_an_elder_session(self):
        self.opens(2, 2)
        self.begin(2, session=2)
        stamp = self.opens(2, 2)
        self.row(("back", 0, 2, 1, 2, stamp))
        self.assertEqual(keeps(self.desk), [(2, 2, stamp)])
        self.row(("back", 0, 2, 2, 2, stamp))
        self.assertEqual(keeps(self.desk), [])

    def test_back_without_a_call(self):
        stamp = self.opens(2, 2)
        self.backs(2, 2, stamp)
        self.assertEqual(keeps(self.desk), [])
        self.backs(2, 2, stamp)

    def test_refused_by_then(self):
        stamp = self.opens(2, 2)
        own = self.opens(1, 2)
        self.waits(1, ("shut", 2, 0, "z"), [(2, 2, stamp)])
        self.asks(3, ("drop", "/f"), ("ok",))
        self.assertEqual(calls_due(self.desk), [(2, 2, stamp)])
        self.backs(2, 2, stamp, self.to(1, ("refused", "gone")))
        self.assertEqual(keeps(self.desk), [(1, 2, own)])
        self.asks(1, ("look",), ("ok",))

    def test_two_of_one_file_the_eldest_first(self):
        stamp = self.opens(1, 2)
        self.waits(3, ("shut", 2, 0, "three"), [(1, 2, stamp)])
        self.waits(2, ("shut", 2, 0, "two"), [(1, 2, stamp)])
        self.assertEqual(calls_due(self.desk), [(1, 2, stamp)])
        self.backs(1, 2, stamp, self.to(3, ("shut", 1, 0)), self.to(2, ("refused", "stale")))
        self.assertEqual(self.file(2), [(1, "three")])
        self.assertEqual(keeps(self.desk), [])

    def test_two_that_keep_the_file_and_wait_for_one_another(self):
        first = self.opens(1, 2)
        second = self.opens(2, 2)
        self.waits(1, ("shut", 2, 0, "one"), [(2, 2, second)])
        self.waits(2, ("shut", 2, 0, "two"), [(1, 2, first)])
        self.assertEqual(calls_due(self.desk), [(1, 2, first), (2, 2, second)])
        self.backs(1, 2, first, self.to(2, ("shut", 1, 0)))
        self.assertEqual(keeps(self.desk), [(2, 2, second)])
        self.backs(2, 2, second, self.to(1, ("refused", "stale")))
        self.assertEqual(self.file(2), [(1, "two")])

    def test_an_elder_keep_stays_where_the_stamp_is_0(self):
        first = self.opens(1, 2)
        second = self.opens(2, 2)
        self.waits(1, ("shut", 2, 0, "one"), [(2, 2, second)])
        self.waits(3, ("shut", 2, 0, "three"), [(1, 2, first), (2, 2, second)])
        self.backs(2, 2, second, self.to(1, ("shut", 1, 0)))
        self.assertEqual(keeps(self.desk), [(1, 2, first)])
        self.assertEqual(calls_due(self.desk), [(1, 2, first)])
        self.backs(1, 2, first, self.to(3, ("refused", "stale")))

    def test_an_elder_one_that_can_be_done_by_then_goes_ahead(self):
        self.opens(1, 2)
        self.now = 50
        self.waits(2, ("shut", 2, 0, "two"), [(1, 2, 8)])
        self.now = 100
        row = self.ask_row(3, ("shut", 2, 0, "three"))
        self.row(("ask", 60, 3, 1, 0, BEGIN), [(3, 1, 0, ("begun",))])
        self.row(row, [self.to(2, ("shut", 1, 0)), self.to(3, ("refused", "stale"))])
        self.assertEqual(self.file(2), [(1, "two")])

    def test_a_younger_one_that_can_be_done_goes_ahead(self):
        stamp = self.opens(1, 2)
        self.waits(2, ("shut", 2, 0, "two"), [(1, 2, stamp)])
        self.asks(3, ("shut", 3, 0, "three"), ("shut", 1, self.desk.place + 1))
        self.asks(1, ("shut", 2, 0, "one"), ("shut", 1, 0))
        self.assertEqual(keeps(self.desk), [(1, 2, stamp), (3, 3, 10)])
        self.backs(1, 2, stamp, self.to(2, ("refused", "stale")))

    def test_none_is_kept_while_it_is_waited_for_and_again_behind(self):
        stamp = self.opens(1, 2)
        self.waits(2, ("shut", 2, 0, "two"), [(1, 2, stamp)])
        self.assertEqual(self.opens(3, 2), 0)
        self.backs(1, 2, stamp, self.to(2, ("shut", 1, self.desk.place + 1)))
        self.asks(3, ("see", 2), ("file", 2, 1, "two", self.desk.place + 1))

    def test_a_row_of_its_own_hands_waits_for_none(self):
        stamp = self.opens(1, 2)
        self.waits(2, ("shut", 2, 0, "two"), [(1, 2, stamp)])
        self.row(("ask", 0, 2, 1, 1, ("shut", 2, 0, "two")))
        self.assertEqual(calls_due(self.desk), [(1, 2, stamp)])


class Joins(DeskCase):
    # 2 a file /f, 3 a file /g.
    def setUp(self):
        DeskCase.setUp(self)
        self.begin(1, 2, 3)
        self.asks(1, ("make", "/f", "x"), ("made", 2))
        self.asks(1, ("make", "/g", "y"), ("made", 3))

    def test_done_at_once(self):
        self.asks(1, ("join", ()), ("joined", []))
        self.asks(1, ("join", (("shut", 2, 0, "z"), ("make", 0, "g", "w"), ("make", 0, "n", ""))),
                  ("joined", [("put", 1), ("clash", 4, "there"), ("made", 5)]))
        self.assertEqual(self.file(2) + self.file(4) + self.file(5), [(1, "z"), (0, "w"), (0, "")])
        self.assertEqual(paths_of(self.desk.shelf, 4), ["/clash/c4"])
        self.assertEqual(keeps(self.desk), [])

    def test_a_list_of_deeds(self):
        self.asks(1, ("join", [("shut", 2, 0, "z")]), ("joined", [("put", 1)]))

    def test_own_keeps_stay_as_they_are(self):
        stamp = self.opens(1, 2)
        self.asks(1, ("join", (("shut", 2, 0, "z"),)), ("joined", [("put", 1)]))
        self.assertEqual(keeps(self.desk), [(1, 2, stamp)])

    def test_waits_for_all_of_its_files(self):
        stamps = {}
        for hand, file in ((3, 2), (2, 3), (2, 2), (1, 2)):
            stamps[(hand, file)] = self.opens(hand, file)
        deeds = (("shut", 3, 0, "a"), ("make", 0, "n", "b"), ("shut", 2, 0, "c"), ("shut", 3, 1, "d"))
        calls = [(2, 2, stamps[(2, 2)]), (2, 3, stamps[(2, 3)]), (3, 2, stamps[(3, 2)])]
        self.waits(1, ("join", deeds), calls)
        self.assertEqual(calls_due(self.desk), calls)
        self.backs(2, 2, stamps[(2, 2)])
        self.backs(2, 3, stamps[(2, 3)])
        self.assertEqual(calls_due(self.desk), calls[2:])
        self.assertEqual(self.file(3), [(0, "y")])
        self.backs(3, 2, stamps[(3, 2)], self.to(1, ("joined", [("put", 1), ("made", 4), ("put", 1), ("put", 2)])))
        self.assertEqual(self.file(2) + self.file(3), [(1, "c"), (2, "d")])

    def test_makes_name_no_file(self):
        self.opens(2, 2)
        self.asks(1, ("join", (("make", 2, "n", "b"), ("make", 0, "m", "c"))),
                  ("joined", [("clash", 4, "kind"), ("made", 5)]))

    def test_refused_parts_wait_too(self):
        stamp = self.opens(2, 2)
        self.waits(1, ("join", (("shut", 2, 7, "mine"),)), [(2, 2, stamp)])
        self.backs(2, 2, stamp, self.to(1, ("joined", [("clash", 4, "stale")])))
        self.assertEqual(self.file(4), [(0, "mine")])

    def test_files_that_are_none_are_named_by_nobody_else(self):
        self.asks(1, ("join", (("shut", 9, 0, "a"), ("shut", 0, 0, "b"))),
                  ("joined", [("clash", 4, "gone"), ("clash", 5, "kind")]))

    def test_a_shut_goes_ahead_of_a_join_that_must_wait(self):
        stamp = self.opens(1, 3)
        self.waits(2, ("join", (("shut", 2, 0, "a"), ("shut", 3, 0, "b"))), [(1, 3, stamp)])
        self.asks(3, ("shut", 2, 0, "c"), ("shut", 1, 0))
        self.assertEqual(keeps(self.desk), [(1, 3, stamp)])
        self.backs(1, 3, stamp, self.to(2, ("joined", [("clash", 4, "stale"), ("put", 1)])))

    def test_joins_and_shuts_stand_in_one_order(self):
        stamp = self.opens(1, 2)
        self.waits(3, ("join", (("shut", 2, 0, "a"),)), [(1, 2, stamp)])
        self.waits(2, ("shut", 2, 0, "b"), [(1, 2, stamp)])
        self.backs(1, 2, stamp, self.to(3, ("joined", [("put", 1)])), self.to(2, ("refused", "stale")))

    def test_told_again(self):
        self.asks(1, ("join", (("shut", 2, 0, "z"),)), ("joined", [("put", 1)]))
        self.row(("ask", 0, 1, 1, 3, ("look",)), [(1, 1, 3, ("joined", [("put", 1)]))])


class Lockings(DeskCase):
    # 2 a file /f, 3 a folder /a.
    def setUp(self):
        DeskCase.setUp(self)
        self.begin(1, 2, 3, 4)
        self.asks(1, ("make", "/f", "x"), ("made", 2))
        self.asks(1, ("fold", "/a"), ("made", 3))

    def test_refused(self):
        self.asks(1, ("lock", 9, "read", 0, 9), ("refused", "gone"))
        for folder in (0, 1, 3):
            self.asks(1, ("lock", folder, "read", 0, 9), ("refused", "kind"))
        self.assertEqual(held(self.desk.locks, 3), [])

    def test_held_and_freed(self):
        self.asks(1, ("lock", 2, "write", 0, 9), ("held",))
        self.assertEqual(held(self.desk.locks, 2), [(0, 9, "write", 1)])
        self.asks(1, ("free", 2, 3, 5), ("ok",))
        self.assertEqual(held(self.desk.locks, 2), [(0, 3, "write", 1), (5, 9, "write", 1)])

    def test_free_of_anything(self):
        for file in (2, 0, 9):
            self.asks(1, ("free", file, 0, 9), ("ok",))

    def test_waits_and_is_held_later(self):
        self.asks(1, ("lock", 2, "write", 0, 9), ("held",))
        self.waits(3, ("lock", 2, "read", 0, 9))
        self.waits(2, ("lock", 2, "read", 5, 6))
        row = self.ask_row(1, ("free", 2, 0, 9))
        self.row(row, [self.to(1, ("ok",)), self.to(3, ("held",)), self.to(2, ("held",))])
        self.row(("ask", 0, 3, 1, 1, ("look",)), [(3, 1, 1, ("held",))])
        self.asks(3, ("look",), ("ok",))

    def test_others_behind_its_own(self):
        self.asks(1, ("lock", 2, "write", 0, 9), ("held",))
        self.waits(3, ("lock", 2, "read", 0, 9))
        self.waits(2, ("lock", 2, "read", 5, 6))
        row = self.ask_row(1, ("lock", 2, "read", 0, 9))
        self.row(row, [self.to(1, ("held",)), self.to(3, ("held",)), self.to(2, ("held",))])

    def test_ring(self):
        self.asks(1, ("lock", 2, "write", 0, 5), ("held",))
        self.asks(2, ("lock", 2, "write", 5, 9), ("held",))
        self.waits(1, ("lock", 2, "write", 5, 9))
        self.asks(2, ("lock", 2, "write", 0, 5), ("refused", "ring"))
        self.row(("ask", 0, 2, 1, 2, ("look",)), [(2, 1, 2, ("refused", "ring"))])
        self.assertEqual(wishes(self.desk.locks), [(1, 2, "write", 5, 9)])
        row = self.ask_row(2, ("free", 2, 5, 9))
        self.row(row, [self.to(2, ("ok",)), self.to(1, ("held",))])

    def test_a_wish_waits_for_no_keep_and_calls_none(self):
        self.opens(2, 2)
        self.asks(1, ("lock", 2, "write", 0, 5), ("held",))
        self.waits(3, ("lock", 2, "write", 0, 5))
        self.assertEqual(calls_due(self.desk), [])

    def test_stretches_hold_no_shut_up(self):
        self.asks(1, ("lock", 2, "write", 0, 5), ("held",))
        self.asks(2, ("shut", 2, 0, "z"), ("shut", 1, self.desk.place + 1))

    def test_stretches_of_a_file_that_is_gone_stay(self):
        self.asks(1, ("lock", 2, "write", 0, 5), ("held",))
        self.waits(2, ("lock", 2, "write", 0, 5))
        self.asks(3, ("drop", "/f"), ("ok",))
        self.asks(3, ("lock", 2, "read", 0, 1), ("refused", "gone"))
        row = self.ask_row(1, ("free", 2, 0, 5))
        self.row(row, [self.to(1, ("ok",)), self.to(2, ("held",))])


class Order(DeskCase):
    """All kinds of answers in one row."""

    def setUp(self):
        DeskCase.setUp(self)
        self.begin(1, 2, 3, 4, 5, 6)
        self.asks(1, ("make", "/f", "x"), ("made", 2))
        self.asks(1, ("make", "/g", "y"), ("made", 3))
        self.stamp = self.opens(1, 2)
        self.asks(1, ("lock", 3, "write", 0, 5), ("held",))
        self.asks(2, ("lock", 3, "write", 5, 9), ("held",))
        self.now = 50
        self.waits(6, ("lock", 3, "write", 5, 9))
        self.waits(5, ("lock", 3, "write", 0, 5))
        self.waits(4, ("shut", 2, 0, "four"), [(1, 2, self.stamp)])
        self.asks(2, ("look",), ("ok",))
        self.asks(3, ("look",), ("ok",))
        self.now = 100

    def test_free(self):
        row = self.ask_row(2, ("free", 3, 5, 9))
        self.row(row, [self.to(5, ("held",)), self.to(2, ("ok",)), self.to(6, ("held",)),
                       self.to(4, ("shut", 1, self.desk.place + 1))])

    def test_begin(self):
        self.row(("ask", 100, 2, 2, 0, BEGIN),
                 [self.to(5, ("held",)), (2, 2, 0, ("begun",)), self.to(6, ("held",)),
                  self.to(4, ("shut", 1, self.desk.place + 1))])

    def test_shut(self):
        row = self.ask_row(3, ("shut", 3, 0, "three"))
        place = self.desk.place + 1
        self.row(row, [self.to(5, ("held",)), self.to(4, ("shut", 1, place)), self.to(3, ("shut", 1, place))])

    def test_open_of_a_file_whose_shut_can_be_done_by_then(self):
        row = self.ask_row(3, ("open", "/f"))
        place = self.desk.place + 1
        self.row(row, [self.to(5, ("held",)), self.to(3, ("file", 2, 0, "x", 0)), self.to(4, ("shut", 1, place))])
        self.assertEqual(keeps(self.desk), [(4, 2, place)])

    def test_ended(self):
        row = self.ask_row(1, ("look",))
        self.row(row, [self.to(5, ("held",)), self.to(1, ("ended",)), self.to(4, ("shut", 1, self.desk.place + 1))])

    def test_back(self):
        self.row(("back", 60, 1, 1, 2, self.stamp), [self.to(4, ("shut", 1, self.desk.place + 1))])

    def test_lead(self):
        self.row(("lead", 0, 100))
        self.assertEqual(self.living(), [1, 2, 3, 4, 5, 6])


class Owned(DeskCase):
    def setUp(self):
        DeskCase.setUp(self)
        self.begin(1, 2)
        self.asks(1, ("make", "/f", "x"), ("made", 2))

    def test_answers_told_again(self):
        answers, calls = self.desk.do(self.ask_row(1, ("open", "/")))
        answers[0][3][2].clear()
        answers.clear()
        calls.append(1)
        self.row(("ask", 0, 1, 1, 2, ("look",)), [(1, 1, 2, ("folder", 0, ["clash", "f"]))])
        answers, calls = self.desk.do(self.ask_row(1, ("join", (("shut", 2, 0, "z"),))))
        answers[0][3][1].clear()
        for times in range(2):
            answers, calls = self.desk.do(("ask", 0, 1, 1, 3, ("look",)))
            self.assertEqual(answers, [(1, 1, 3, ("joined", [("put", 1)]))])
            answers[0][3][1].append(7)

    def test_lists_told(self):
        stamp = self.opens(1, 2)
        self.waits(2, ("shut", 2, 0, "z"), [(1, 2, stamp)])
        for tell in (calls_due, sessions, keeps):
            before = list(tell(self.desk))
            self.assertNotEqual(before, [])
            tell(self.desk).clear()
            self.assertEqual(tell(self.desk), before)
            self.assertEqual(tell(self.desk), before)

    def test_what_is_handed_in(self):
        stamp = self.opens(1, 2)
        deeds = [("shut", 2, 0, "z")]
        row = self.ask_row(2, ("join", deeds))
        before = copy.deepcopy(row)
        self.row(row, [], [(1, 2, stamp)])
        self.assertEqual(row, before)
        deeds.clear()
        self.assertEqual(calls_due(self.desk), [(1, 2, stamp)])
        self.backs(1, 2, stamp, self.to(2, ("joined", [("put", 1)])))

    def test_desks_share_nothing(self):
        other = Desk(SPAN)
        self.assertEqual(other.place, 0)
        self.assertEqual(sessions(other), [])
        self.assertEqual(rows_of(other.shelf), rows_of(Shelf()))


def some_request(chance):
    file = chance.randrange(2, 6)
    path = chance.choice(("/a", "/b", "/c", "/clash/x", "/a/b", "/", "A"))
    low = chance.randrange(8)
    version = chance.choice((0, 0, 0, 1, 1, 2, 3))
    shuts = [("shut", chance.randrange(2, 6), version + step, f"j{step}") for step in range(2)]
    makes = [("make", chance.randrange(3), "n", f"m{step}") for step in range(2)]
    lock = ("lock", chance.randrange(2, 4), chance.choice(("read", "write")), low, low + 3)
    return chance.choice((
        ("look",), ("make", path, "x"), ("make", path, "x"), ("fold", path), ("link", path, file), ("drop", path),
        ("move", path, chance.choice(("/a", "/b", "/c"))), ("open", path), ("open", path), ("see", file),
        ("see", file), ("see", file), ("shut", file, version, f"s{low}"), ("shut", file, version, f"t{low}"),
        ("join", tuple(chance.sample(shuts + makes, chance.randrange(4)))), lock, lock, lock,
        ("free", file, low, low + 4)))


class Rows:
    """Rows by chance, with the numbers and stamps that are due by what the desk told so far."""

    def __init__(self, seed):
        self.chance = random.Random(seed)
        self.time = 0
        self.begun = {}
        self.answered = {}

    def hear(self, answers):
        for hand, session, number, answer in answers:
            self.answered[(hand, session)] = max(number, self.answered.get((hand, session), 0))

    def next_row(self, desk):
        chance = self.chance
        self.time += chance.choice((0, 1, 1, 2, 5))
        hand = chance.randrange(1, 6)
        session = self.begun.get(hand, 0)
        number = self.answered.get((hand, session), 0)
        kind = chance.random()
        if kind < 0.02:
            return ("lead", 0, self.time)
        if kind < 0.06:
            return ("time", self.time)
        if kind < 0.3:
            kept = [keep[1:] for keep in keeps(desk) if keep[0] == hand] + [(2, 1)]
            return ("back", self.time, hand, session) + chance.choice(kept)
        if session == 0 or kind < 0.35:
            self.begun[hand] = session + 1
            return ("ask", self.time, hand, session + 1, 0, BEGIN)
        if kind < 0.4:
            return ("ask", self.time, hand, session, number + chance.choice((-1, 0, 2)), ("look",))
        return ("ask", self.time, hand, session, number + 1, some_request(chance))


class Promises(unittest.TestCase):
    """What holds behind every row, whatever the rows are."""

    def run_rows(self, seed, told):
        desk = Desk(40)
        other = Desk(40)
        rows = Rows(seed)
        versions_kept = {}
        for step in range(300):
            row = rows.next_row(desk)
            due = calls_due(desk)
            answers, calls = desk.do(row)
            rows.hear(answers)
            self.assertEqual(other.do(row), (answers, calls))
            for answer in answers:
                told["".join(answer[3]) if answer[3][0] == "refused" else answer[3][0]] = True
            self.assertEqual(calls, sorted(calls))
            self.assertLessEqual(set(calls), set(calls_due(desk)))
            self.assertLessEqual(set(calls_due(desk)) - set(due), set(calls))
            self.hold_kept(desk, versions_kept, answers)
            self.assertLessEqual({keep[0] for keep in keeps(desk)}, {lives[0] for lives in sessions(desk)})
            for file in range(2, 12):
                self.assertIsNone(against(held(desk.locks, file)))
        self.assertEqual([tell(desk) for tell in (keeps, sessions, calls_due)],
                         [tell(other) for tell in (keeps, sessions, calls_due)])
        self.assertEqual(rows_of(desk.shelf), rows_of(other.shelf))

    def hold_kept(self, desk, versions_kept, answers):
        """Of a file that a hand keeps no other hand has put a new version since."""
        versions = {row[1]: row[2] for row in rows_of(desk.shelf) if row[0] == "file"}
        writers = {answer[0] for answer in answers if answer[3][0] in ("shut", "joined")}
        for keep in keeps(desk):
            if keep not in versions_kept:
                versions_kept[keep] = versions[keep[1]]
            elif keep[1] in versions and versions_kept[keep] != versions[keep[1]]:
                self.assertIn(keep[0], writers)
                versions_kept[keep] = versions[keep[1]]

    def test_many_rows(self):
        told = {}
        for seed in range(40):
            self.run_rows(seed, told)
        for word in ("ok", "made", "held", "begun", "ended", "file", "folder", "shut", "joined", "refusedstale",
                     "refusedgone", "refusedkind", "refusedname", "refusedlacks", "refusedkept", "refusedthere",
                     "refusedring"):
            self.assertIn(word, told)


if __name__ == "__main__":
    unittest.main()

import copy
import random
import unittest

from farshelf.errors import Busy, NoSession, NotAlone
from farshelf.hands import Hand

HELD = 50
BEGUN = ("begun",)
OK = ("ok",)


def state(hand, reading):
    return (hand.again(), hand.copies(), hand.deeds(), hand.holds(reading), hand.locked(reading))


class HandsCase(unittest.TestCase):
    """Hand 4, which holds 50; each ask is told and answered at the reading self.now."""

    def setUp(self):
        self.hand = Hand(4, HELD)
        self.now = 0
        self.session = 0
        self.number = 0

    def begin(self, told=BEGUN):
        self.session += 1
        self.number = 0
        self.assertEqual(self.hand.begin(self.now), ("ask", 4, self.session, 0, ("begin",)))
        if told is not None:
            self.answer(told)

    def ask(self, request, told=None):
        self.number += 1
        self.assertEqual(self.hand.ask(request, self.now), ("ask", 4, self.session, self.number, request))
        if told is not None:
            self.answer(told)

    def answer(self, told):
        self.assertIs(self.hand.answer(self.session, self.number, told, self.now), True)

    def opens(self, file, version, content, stamp):
        self.ask(("see", file), ("file", file, version, content, stamp))

    def locks(self, file, sort, low, high):
        self.ask(("lock", file, sort, low, high), ("held",))

    def copied(self, *rows):
        self.assertEqual(self.hand.copies(), list(rows))

    def has_locked(self, *rows):
        self.assertEqual(self.hand.locked(self.now), list(rows))

    def refuses(self, refusal, act):
        before = state(self.hand, self.now)
        with self.assertRaises(refusal):
            act()
        self.assertEqual(state(self.hand, self.now), before)


class New(HandsCase):
    def test_nothing_is_there(self):
        self.assertIsNone(self.hand.again())
        self.assertIs(self.hand.holds(0), False)
        self.assertIsNone(self.hand.seen(2, 0))
        self.assertEqual(self.hand.locked(0), [])
        self.assertEqual(self.hand.copies(), [])
        self.assertEqual(self.hand.deeds(), ())
        self.assertIsInstance(self.hand.deeds(), tuple)

    def test_no_session(self):
        self.refuses(NoSession, lambda: self.hand.ask(("look",), 0))

    def test_no_answer_is_taken(self):
        for session, number in ((0, 0), (1, 0), (1, 1)):
            self.assertIs(self.hand.answer(session, number, BEGUN, 0), False)
        self.assertIs(self.hand.holds(0), False)

    def test_call_before_any_begin(self):
        self.assertEqual(self.hand.call(2, 7), ("back", 4, 0, 2, 7))
        self.begin()
        self.opens(2, 0, "a", 7)
        self.copied((2, 0, "a", 0))
        self.opens(2, 0, "a", 8)
        self.copied((2, 0, "a", 8))

    def test_work(self):
        self.hand.work(("make", 0, "n", "x"), 0)
        self.hand.work(("shut", 2, 0, "y"), 0)
        self.assertEqual(self.hand.deeds(), (("make", 0, "n", "x"), ("shut", 2, 0, "y")))
        self.copied()


class Sessions(HandsCase):
    def test_each_is_one_greater(self):
        for session in (1, 2, 3):
            self.begin()
        self.ask(("look",), OK)
        self.begin(None)
        self.assertEqual(self.hand.again(), ("ask", 4, 4, 0, ("begin",)))

    def test_asks_are_numbered_from_one_in_each(self):
        for session in (1, 2):
            self.begin()
            for number in (1, 2, 3):
                self.ask(("look",), OK)

    def test_begin_with_an_ask_under_way(self):
        self.begin(None)
        self.begin(None)
        self.assertIs(self.hand.answer(1, 0, BEGUN, 0), False)
        self.answer(BEGUN)
        self.ask(("make", "/a", ""))
        self.begin(None)
        self.assertIs(self.hand.answer(2, 1, ("made", 2), 0), False)
        self.assertEqual(self.hand.again(), ("ask", 4, 3, 0, ("begin",)))
        self.answer(BEGUN)
        self.assertIsNone(self.hand.again())

    def test_busy(self):
        self.begin(None)
        self.refuses(Busy, lambda: self.hand.ask(("look",), 0))
        self.answer(BEGUN)
        self.ask(("open", "/a"))
        self.refuses(Busy, lambda: self.hand.ask(("look",), 0))
        self.assertEqual(self.hand.again(), ("ask", 4, 1, 1, ("open", "/a")))
        self.answer(("refused", "lacks"))
        self.ask(("look",), OK)

    def test_busy_lets_go_of_nothing(self):
        self.begin()
        self.opens(2, 0, "a", 5)
        self.locks(2, "write", 0, 9)
        self.ask(("look",))
        for request in (("free", 2, 0, 9), ("lock", 2, "read", 0, 9), ("join", (("shut", 2, 0, "b"),))):
            self.refuses(Busy, lambda: self.hand.ask(request, 0))
        self.has_locked((2, 0, 9, "write"))
        self.copied((2, 0, "a", 5))

    def test_again(self):
        self.begin(None)
        for times in range(2):
            self.assertEqual(self.hand.again(), ("ask", 4, 1, 0, ("begin",)))
        self.answer(BEGUN)
        self.assertIsNone(self.hand.again())
        self.ask(("shut", 2, 0, "x"))
        for times in range(2):
            self.assertEqual(self.hand.again(), ("ask", 4, 1, 1, ("shut", 2, 0, "x")))

    def test_begin_takes_all_away(self):
        self.begin()
        self.opens(2, 0, "a", 5)
        self.opens(3, 1, "b", 6)
        self.locks(2, "write", 0, 9)
        self.assertIs(self.hand.holds(0), True)
        self.begin(None)
        self.assertIs(self.hand.holds(0), False)
        self.copied((2, 0, "a", 0), (3, 1, "b", 0))
        self.has_locked()
        self.answer(BEGUN)
        self.assertIs(self.hand.holds(0), True)
        self.has_locked()
        self.assertIsNone(self.hand.seen(2, 0))

    def test_ended(self):
        self.begin()
        self.opens(2, 0, "a", 5)
        self.locks(2, "write", 0, 9)
        self.ask(("look",), ("ended",))
        self.assertIs(self.hand.holds(0), False)
        self.copied((2, 0, "a", 0))
        self.assertIsNone(self.hand.again())
        self.refuses(NoSession, lambda: self.hand.ask(("look",), 0))
        self.assertEqual(self.hand.call(2, 5), ("back", 4, 1, 2, 5))
        self.begin()
        self.has_locked()
        self.ask(("look",), OK)

    def test_begin_told_ended(self):
        self.begin(("ended",))
        self.assertIs(self.hand.holds(0), False)
        self.refuses(NoSession, lambda: self.hand.ask(("look",), 0))
        self.begin()


class Answers(HandsCase):
    def test_to_elder_sessions_and_numbers(self):
        self.begin()
        self.ask(("look",), OK)
        self.begin()
        self.ask(("look",), OK)
        self.ask(("see", 2))
        before = state(self.hand, 0)
        for session, number in ((2, 1), (2, 0), (1, 1), (1, 2), (1, 0), (2, 3), (3, 0), (3, 2), (0, 2)):
            for told in (("file", 2, 0, "a", 5), ("ended",)):
                self.assertIs(self.hand.answer(session, number, told, 40), False)
                self.assertEqual(state(self.hand, 0), before)
        self.answer(("file", 2, 0, "a", 5))
        before = state(self.hand, 0)
        self.assertIs(self.hand.answer(2, 2, ("file", 2, 0, "a", 9), 40), False)
        self.assertIs(self.hand.answer(2, 2, ("ended",), 40), False)
        self.assertEqual(state(self.hand, 0), before)

    def test_what_was_told_twice_lengthens_nothing(self):
        self.begin()
        self.now = 10
        self.ask(("look",), OK)
        self.assertIs(self.hand.answer(1, 1, OK, 59), False)
        self.assertIs(self.hand.holds(59), True)
        self.assertIs(self.hand.holds(60), False)


class Leases(HandsCase):
    def lasts_until(self, end):
        self.assertIs(self.hand.holds(end - 1), True)
        self.assertIs(self.hand.holds(end), False)
        self.assertIs(self.hand.holds(end + 1), False)

    def test_from_the_first_telling_on(self):
        self.now = 7
        self.begin(None)
        self.assertIs(self.hand.holds(7), False)
        self.now = 20
        self.hand.again()
        self.now = 30
        self.answer(BEGUN)
        self.lasts_until(57)
        self.now = 33
        self.ask(("look",))
        self.lasts_until(57)
        self.hand.again()
        self.now = 60
        self.assertIs(self.hand.holds(60), False)
        self.answer(OK)
        self.lasts_until(83)

    def test_answers_that_come_too_late(self):
        self.begin(None)
        self.now = 50
        self.answer(BEGUN)
        self.assertIs(self.hand.holds(50), False)
        self.ask(("see", 2))
        self.now = 99
        self.answer(("file", 2, 0, "a", 3))
        self.assertEqual(self.hand.seen(2, 99), (0, "a"))
        self.assertIsNone(self.hand.seen(2, 100))

    def test_refused_lengthens_too(self):
        self.begin()
        self.now = 30
        self.ask(("drop", "/a"), ("refused", "lacks"))
        self.lasts_until(80)

    def test_a_longer_one_is_kept(self):
        self.now = 30
        self.begin()
        self.lasts_until(80)
        self.now = 10
        self.ask(("look",), OK)
        self.lasts_until(80)

    def test_asking_and_calls_lengthen_nothing(self):
        self.begin()
        self.now = 30
        self.ask(("look",))
        self.hand.call(2, 5)
        self.lasts_until(50)

    def test_begin_ends_it_and_starts_from_its_own(self):
        self.begin()
        self.now = 10
        self.begin(None)
        self.assertIs(self.hand.holds(10), False)
        self.answer(BEGUN)
        self.lasts_until(60)

    def test_held_of_one(self):
        self.hand = Hand(4, 1)
        self.begin()
        self.lasts_until(1)


class Copies(HandsCase):
    def setUp(self):
        HandsCase.setUp(self)
        self.begin()

    def test_file(self):
        self.opens(9, 3, "x.y", 12)
        self.opens(2, 0, "", 13)
        self.copied((2, 0, "", 13), (9, 3, "x.y", 12))
        self.assertIsInstance(self.hand.copies()[0], tuple)
        self.assertEqual(self.hand.seen(9, 0), (3, "x.y"))
        self.assertEqual(self.hand.seen(2, 49), (0, ""))
        self.assertIsNone(self.hand.seen(2, 50))
        self.assertIsNone(self.hand.seen(3, 0))

    def test_without_a_stamp(self):
        self.opens(2, 0, "a", 0)
        self.copied((2, 0, "a", 0))
        self.assertIsNone(self.hand.seen(2, 0))

    def test_in_the_place_of_an_elder_one(self):
        self.opens(2, 0, "a", 5)
        self.opens(2, 1, "b", 8)
        self.copied((2, 1, "b", 8))
        self.opens(2, 1, "b", 0)
        self.copied((2, 1, "b", 0))
        self.assertIsNone(self.hand.seen(2, 0))

    def test_shut(self):
        self.opens(2, 0, "a", 5)
        self.ask(("shut", 2, 0, "b"))
        self.assertEqual(self.hand.seen(2, 0), (0, "a"))
        self.answer(("shut", 1, 9))
        self.copied((2, 1, "b", 9))
        self.ask(("shut", 3, 6, ""), ("shut", 7, 0))
        self.copied((2, 1, "b", 9), (3, 7, "", 0))

    def test_others_make_none(self):
        self.opens(2, 0, "a", 5)
        for request, told in ((("shut", 2, 4, "b"), ("refused", "stale")), (("see", 0), ("folder", 0, ["a", "clash"])),
                              (("open", "/x"), ("refused", "lacks")), (("make", "/x", "c"), ("made", 3)),
                              (("move", "/a", "/b"), OK), (("lock", 2, "read", 0, 1), ("refused", "ring"))):
            self.ask(request, told)
            self.copied((2, 0, "a", 5))

    def test_call(self):
        self.opens(2, 0, "a", 5)
        self.assertEqual(self.hand.call(2, 4), ("back", 4, 1, 2, 4))
        self.assertEqual(self.hand.seen(2, 0), (0, "a"))
        self.assertEqual(self.hand.call(3, 99), ("back", 4, 1, 3, 99))
        self.assertEqual(self.hand.seen(2, 0), (0, "a"))
        self.assertEqual(self.hand.call(2, 5), ("back", 4, 1, 2, 5))
        self.assertIsNone(self.hand.seen(2, 0))
        self.copied((2, 0, "a", 0))
        self.assertEqual(self.hand.call(2, 5), ("back", 4, 1, 2, 5))

    def test_call_of_a_greater_stamp(self):
        self.opens(2, 0, "a", 5)
        self.hand.call(2, 6)
        self.copied((2, 0, "a", 0))

    def test_calls_heard_ahead(self):
        self.ask(("see", 2))
        self.hand.call(2, 6)
        self.hand.call(2, 3)
        self.answer(("file", 2, 0, "a", 6))
        self.copied((2, 0, "a", 0))
        self.opens(2, 0, "a", 5)
        self.copied((2, 0, "a", 0))
        self.opens(2, 0, "a", 7)
        self.copied((2, 0, "a", 7))
        self.ask(("shut", 2, 0, "b"))
        self.hand.call(2, 9)
        self.answer(("shut", 1, 9))
        self.copied((2, 1, "b", 0))

    def test_the_least_stamp(self):
        self.opens(2, 0, "a", 1)
        self.copied((2, 0, "a", 1))
        self.hand.call(3, 1)
        self.opens(3, 0, "a", 1)
        self.opens(4, 0, "a", 2)
        self.copied((2, 0, "a", 1), (3, 0, "a", 0), (4, 0, "a", 2))

    def test_calls_heard_stay_heard(self):
        self.hand.call(2, 6)
        self.ask(("look",), ("ended",))
        self.begin()
        self.opens(2, 0, "a", 6)
        self.copied((2, 0, "a", 0))

    def test_back_has_the_last_session_begun(self):
        self.begin()
        self.begin(None)
        self.assertEqual(self.hand.call(2, 6), ("back", 4, 3, 2, 6))


class Locked(HandsCase):
    def setUp(self):
        HandsCase.setUp(self)
        self.begin()

    def test_held(self):
        self.ask(("lock", 2, "write", 3, 7))
        self.has_locked()
        self.answer(("held",))
        self.has_locked((2, 3, 7, "write"))
        self.assertIsInstance(self.hand.locked(0)[0], tuple)
        self.locks(1, "read", 9, 10)
        self.has_locked((1, 9, 10, "read"), (2, 3, 7, "write"))

    def test_while_it_holds(self):
        self.locks(2, "write", 3, 7)
        self.assertEqual(self.hand.locked(49), [(2, 3, 7, "write")])
        self.assertEqual(self.hand.locked(50), [])
        self.now = 55
        self.ask(("look",), OK)
        self.has_locked((2, 3, 7, "write"))

    def test_refused(self):
        self.locks(2, "read", 3, 7)
        for word in ("gone", "kind", "ring"):
            self.ask(("lock", 2, "write", 0, 9), ("refused", word))
            self.has_locked((2, 3, 7, "read"))

    def test_joined(self):
        self.locks(2, "write", 3, 5)
        self.locks(2, "write", 7, 9)
        self.has_locked((2, 3, 5, "write"), (2, 7, 9, "write"))
        self.locks(2, "write", 5, 7)
        self.has_locked((2, 3, 9, "write"))
        self.locks(3, "write", 9, 12)
        self.locks(2, "read", 9, 12)
        self.has_locked((2, 3, 9, "write"), (2, 9, 12, "read"), (3, 9, 12, "write"))

    def test_in_part_read_and_in_part_written(self):
        self.locks(2, "read", 0, 10)
        self.locks(2, "write", 3, 5)
        self.has_locked((2, 0, 3, "read"), (2, 3, 5, "write"), (2, 5, 10, "read"))
        self.locks(2, "read", 2, 4)
        self.has_locked((2, 0, 4, "read"), (2, 4, 5, "write"), (2, 5, 10, "read"))
        self.locks(2, "read", 0, 20)
        self.has_locked((2, 0, 20, "read"))

    def test_freed_from_the_asking_on(self):
        self.locks(2, "write", 0, 10)
        self.locks(3, "write", 0, 10)
        self.ask(("free", 2, 3, 5))
        self.has_locked((2, 0, 3, "write"), (2, 5, 10, "write"), (3, 0, 10, "write"))
        self.answer(OK)
        self.has_locked((2, 0, 3, "write"), (2, 5, 10, "write"), (3, 0, 10, "write"))
        self.ask(("free", 2, 0, 99))
        self.has_locked((3, 0, 10, "write"))
        self.answer(OK)
        self.ask(("free", 7, 0, 99), OK)
        self.has_locked((3, 0, 10, "write"))

    def test_write_to_read_from_the_asking_on(self):
        self.locks(2, "write", 0, 4)
        self.locks(2, "write", 6, 10)
        self.ask(("lock", 2, "read", 3, 8))
        self.has_locked((2, 0, 3, "write"), (2, 3, 4, "read"), (2, 6, 8, "read"), (2, 8, 10, "write"))
        self.answer(("refused", "ring"))
        self.has_locked((2, 0, 3, "write"), (2, 3, 4, "read"), (2, 6, 8, "read"), (2, 8, 10, "write"))
        self.locks(2, "read", 3, 8)
        self.has_locked((2, 0, 3, "write"), (2, 3, 8, "read"), (2, 8, 10, "write"))

    def test_of_another_file_it_changes_nothing(self):
        self.locks(2, "write", 0, 4)
        self.ask(("lock", 3, "read", 0, 4))
        self.has_locked((2, 0, 4, "write"))

    def test_read_to_write_from_the_answer_on(self):
        self.locks(2, "read", 0, 10)
        self.ask(("lock", 2, "write", 3, 5))
        self.has_locked((2, 0, 10, "read"))
        self.answer(("held",))
        self.has_locked((2, 0, 3, "read"), (2, 3, 5, "write"), (2, 5, 10, "read"))


class Alone(HandsCase):
    def test_refused_while_it_holds(self):
        self.begin()
        for reading in (0, 49):
            self.refuses(NotAlone, lambda: self.hand.work(("make", 0, "n", "x"), reading))
        self.hand.work(("make", 0, "n", "x"), 50)
        self.assertEqual(self.hand.deeds(), (("make", 0, "n", "x"),))

    def test_ended_and_begun(self):
        self.begin()
        self.ask(("look",), ("ended",))
        self.hand.work(("make", 0, "n", "x"), 0)
        self.begin(None)
        self.hand.work(("make", 0, "m", "y"), 0)
        self.answer(BEGUN)
        self.refuses(NotAlone, lambda: self.hand.work(("make", 0, "o", "z"), 0))
        self.assertEqual(self.hand.deeds(), (("make", 0, "n", "x"), ("make", 0, "m", "y")))

    def test_shut_on_a_copy(self):
        self.begin()
        self.opens(2, 3, "a", 5)
        self.opens(3, 0, "c", 6)
        self.now = 50
        self.hand.work(("shut", 2, 3, "b"), 50)
        self.copied((2, 4, "b", 0), (3, 0, "c", 6))
        self.hand.work(("shut", 2, 9, ""), 50)
        self.hand.work(("shut", 7, 1, "q"), 50)
        self.hand.work(("make", 2, "n", "z"), 50)
        self.copied((2, 10, "", 0), (3, 0, "c", 6))
        self.ask(("look",), OK)
        self.assertIsNone(self.hand.seen(2, 50))
        self.assertEqual(self.hand.seen(3, 50), (0, "c"))

    def test_join(self):
        self.begin()
        for file in (2, 3, 4):
            self.opens(file, 0, "a", file + 3)
        self.now = 50
        deeds = (("make", 4, "n", "x"), ("shut", 2, 0, "b"), ("shut", 9, 0, "c"))
        for deed in deeds:
            self.hand.work(deed, 50)
        self.ask(("join", self.hand.deeds()))
        self.copied((2, 1, "b", 0), (3, 0, "a", 6), (4, 0, "a", 7))
        self.hand.work(("make", 0, "later", ""), 50)
        self.assertEqual(self.hand.deeds(), deeds + (("make", 0, "later", ""),))
        self.answer(("joined", [("made", 9), ("put", 1), ("clash", 10, "gone")]))
        self.assertEqual(self.hand.deeds(), (("make", 0, "later", ""),))
        self.copied((2, 1, "b", 0), (3, 0, "a", 6), (4, 0, "a", 7))

    def test_a_join_that_names_copies_with_stamps(self):
        self.begin()
        for file in (2, 3, 4):
            self.opens(file, 0, "a", file + 3)
        self.ask(("join", (("shut", 2, 0, "b"), ("make", 3, "n", ""), ("shut", 4, 0, "c"), ("shut", 8, 0, "d"))))
        self.copied((2, 0, "a", 0), (3, 0, "a", 6), (4, 0, "a", 0))
        self.answer(("joined", [("put", 1)] * 4))
        self.copied((2, 0, "a", 0), (3, 0, "a", 6), (4, 0, "a", 0))

    def test_a_join_that_is_not_told_joined(self):
        self.hand.work(("make", 0, "n", ""), 0)
        self.begin()
        self.ask(("join", self.hand.deeds()), ("ended",))
        self.assertEqual(self.hand.deeds(), (("make", 0, "n", ""),))
        self.begin()
        self.ask(("join", self.hand.deeds()))
        self.begin()
        self.assertEqual(self.hand.deeds(), (("make", 0, "n", ""),))
        self.ask(("join", ()), ("joined", []))
        self.assertEqual(self.hand.deeds(), (("make", 0, "n", ""),))
        self.ask(("join", self.hand.deeds()), ("joined", [("made", 2)]))
        self.assertEqual(self.hand.deeds(), ())


class Owned(HandsCase):
    def test_lists_told(self):
        self.begin()
        self.opens(2, 0, "a", 5)
        self.locks(2, "write", 0, 4)
        for tell in (self.hand.copies, lambda: self.hand.locked(0)):
            before = list(tell())
            tell().clear()
            self.assertEqual(tell(), before)

    def test_requests(self):
        self.begin()
        deeds = [("make", 0, "n", "")]
        request = ("join", deeds)
        message = self.hand.ask(request, 0)
        before = copy.deepcopy(message)
        deeds.append(1)
        self.assertEqual(message, before)
        message[4][1].append(2)
        self.hand.again()[4][1].append(3)
        self.assertEqual(self.hand.again(), before)

    def test_answers(self):
        self.begin()
        told = ("folder", 0, ["a"])
        self.ask(("see", 0), told)
        self.assertEqual(told, ("folder", 0, ["a"]))

    def test_hands_share_nothing(self):
        self.begin()
        self.opens(2, 0, "a", 5)
        self.hand.call(2, 9)
        self.hand.work(("make", 0, "n", ""), 99)
        self.assertEqual(state(Hand(4, HELD), 0), (None, [], (), False, []))


class Places:
    """Of each place how it is held, by itself."""

    def __init__(self):
        self.sorts = {}

    def put(self, file, low, high, sort, only=None):
        for place in range(low, high):
            if only is None or self.sorts.get((file, place)) == only:
                self.sorts[(file, place)] = sort

    def rows(self):
        found = []
        for (file, place), sort in sorted(self.sorts.items()):
            if sort is None:
                continue
            if found and found[-1][0] == file and found[-1][2] == place and found[-1][3] == sort:
                found[-1] = found[-1][:2] + (place + 1, sort)
            else:
                found.append((file, place, place + 1, sort))
        return found


class Drawn(HandsCase):
    def test_locked_place_by_place(self):
        for seed in range(30):
            self.setUp()
            self.begin()
            chance = random.Random(seed)
            places = Places()
            for times in range(60):
                file = chance.randrange(2)
                low = chance.randrange(12)
                high = low + chance.randrange(1, 6)
                sort = chance.choice(("read", "write"))
                if chance.random() < 0.3:
                    self.ask(("free", file, low, high))
                    places.put(file, low, high, None)
                    self.assertEqual(self.hand.locked(0), places.rows())
                    self.answer(OK)
                else:
                    self.ask(("lock", file, sort, low, high))
                    if sort == "read":
                        places.put(file, low, high, "read", "write")
                    self.assertEqual(self.hand.locked(0), places.rows())
                    if chance.random() < 0.8:
                        self.answer(("held",))
                        places.put(file, low, high, sort)
                    else:
                        self.answer(("refused", "ring"))
                self.assertEqual(self.hand.locked(0), places.rows())


if __name__ == "__main__":
    unittest.main()

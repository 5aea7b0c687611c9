import copy
import unittest

from farshelf.desk import Desk, calls_due, keeps, sessions
from farshelf.errors import BadEvent, ShelfError
from farshelf.hands import Hand
from farshelf.masters import Master
from farshelf.shelf import node_at, rows_of
from farshelf.stories import story_of
from farshelf.world import World, held_now, step

EVEN = (1, 1, 1, 1)
WIDE = (1, 2, 3, 2)
KEPT = 100
HELD = 80


def master_state(master):
    return (master.number, master.many, master.term, master.of, list(master.log), master.done, master.role)


def desk_state(desk):
    return (desk.place, rows_of(desk.shelf), sessions(desk), keeps(desk), calls_due(desk))


def hand_state(hand, reading):
    return (hand.again(), hand.copies(), hand.deeds(), hand.holds(reading), hand.locked(reading))


def state(world):
    """All that can be told of a world."""
    readings = world.clocks[len(world.masters):]
    return copy.deepcopy((
        [master_state(master) for master in world.masters], [desk_state(desk) for desk in world.desks],
        [hand_state(hand, reading) for hand, reading in zip(world.hands, readings)], world.clocks, world.way,
        story_of(world), held_now(world)))


class WorldCase(unittest.TestCase):
    def make(self, masters=3, hands=2, bounds=EVEN, held=HELD):
        self.world = World(masters, hands, KEPT, held, bounds)

    def steps(self, *pairs):
        for event, told in pairs:
            with self.subTest(event=event):
                self.assertEqual(step(self.world, event), told)

    def step(self, *event):
        return step(self.world, event)

    def refuses(self, *events):
        for event in events:
            with self.subTest(event=event):
                before = state(self.world)
                handed = copy.deepcopy(event)
                with self.assertRaises(BadEvent) as taken:
                    step(self.world, event)
                self.assertIsInstance(taken.exception, ShelfError)
                self.assertEqual(state(self.world), before)
                self.assertEqual(event, handed)

    def way(self, *messages):
        self.assertEqual(self.world.way, list(messages))

    def clear(self):
        self.step("rest", 10000)
        self.way()

    def lose_all(self):
        while self.world.way:
            self.step("lose", 0)

    def lead(self, m=0):
        self.step("rise", m)
        self.clear()
        self.assertEqual(self.world.masters[m].role, "leads")

    def begin(self, *hands, m=0):
        for h in hands:
            self.steps((("begin", h, m), ("asked",)))
            self.clear()

    def ask(self, h, request, m=0):
        """Asks and carries all; tells the answer, None where none came."""
        self.steps((("ask", h, m, request), ("asked",)))
        before = len(story_of(self.world))
        self.clear()
        told = [row for row in story_of(self.world)[before:] if row[:2] == ("told", h)]
        return told[0][3] if told else None

    def alone(self, hands=2, held=HELD):
        """One master, which leads, and hands that begun."""
        self.make(1, hands, EVEN, held)
        self.lead()
        self.begin(*range(hands))


class New(WorldCase):
    def test_fields(self):
        self.make(3, 2)
        world = self.world
        for fields in (world.masters, world.desks, world.hands, world.clocks, world.way):
            self.assertIsInstance(fields, list)
        self.assertEqual([master_state(master) for master in world.masters],
                         [master_state(Master(number, 3)) for number in range(3)])
        for kind, things in ((Master, world.masters), (Desk, world.desks), (Hand, world.hands)):
            for thing in things:
                self.assertIsInstance(thing, kind)
        self.assertEqual([desk.place for desk in world.desks], [0, 0, 0])
        self.assertEqual(len(world.hands), 2)
        self.assertEqual(world.clocks, [0, 0, 0, 0, 0])
        self.way()
        self.assertEqual(held_now(world), [])
        self.assertEqual(story_of(world), [])

    def test_one_master_and_no_hand(self):
        self.make(1, 0)
        self.assertEqual(self.world.clocks, [0])
        self.steps((("rise", 0), ("sent", 0)), (("pass", 3, [3]), ("passed",)), (("time", 0), ("sent", 0)))
        self.assertEqual(self.world.masters[0].log, [("lead", 0, 0), ("time", 3)])
        self.refuses(("begin", 0, 0), ("see", 0, 2))

    def test_hands_are_told_by_their_places(self):
        self.make(1, 3)
        for h in range(3):
            self.step("begin", h, 0)
        self.way(*[("ask", h, 0, 1, 0, ("begin",)) for h in range(3)])

    def test_worlds_share_nothing(self):
        self.make(1, 1)
        self.lead()
        other = World(1, 1, KEPT, HELD, EVEN)
        self.assertEqual((other.way, other.clocks, other.masters[0].log), ([], [0, 0], []))

    def test_kept_and_held(self):
        self.alone(1)
        self.assertEqual(sessions(self.world.desks[0]), [(0, 1, KEPT)])
        self.assertIs(self.world.hands[0].holds(HELD - 1), True)
        self.assertIs(self.world.hands[0].holds(HELD), False)


class Pass(WorldCase):
    def test_clocks_grow(self):
        self.make(1, 2, WIDE)
        self.steps((("pass", 10, [5, 10, 15]), ("passed",)), (("pass", 0, [0, 0, 0]), ("passed",)),
                   (("pass", 3, [2, 4, 3]), ("passed",)))
        self.assertEqual(self.world.clocks, [7, 14, 18])
        self.steps((("pass", 10 ** 30, [10 ** 30] * 3), ("passed",)))
        self.assertEqual(self.world.clocks[2], 10 ** 30 + 18)

    def test_at_the_bounds_and_one_beside(self):
        self.make(1, 2, WIDE)
        for place in range(3):
            for growth in (4, 16, -1):
                grown = [10, 10, 10]
                grown[place] = growth
                self.refuses(("pass", 10, grown))
            for growth in (5, 15):
                grown = [10, 10, 10]
                grown[place] = growth
                self.steps((("pass", 10, grown), ("passed",)))
        self.refuses(("pass", 0, [0, 0, 1]), ("pass", 1, [0, 1, 1]), ("pass", 1, [2, 1, 1]))

    def test_below_nought(self):
        self.make(1, 2, WIDE)
        self.refuses(("pass", -1, [0, 0, 0]), ("pass", -10, [-10, -10, -10]), ("pass", -2, [-1, -2, -3]),
                     ("pass", 0, [0, -1, 0]))

    def test_not_one_for_each_clock(self):
        self.make(1, 2, WIDE)
        self.refuses(("pass", 1, [1, 1]), ("pass", 1, [1, 1, 1, 1]), ("pass", 0, []))

    def test_the_list_is_not_kept(self):
        self.make(1, 0)
        grown = [4]
        self.step("pass", 4, grown)
        grown[0] = 9
        self.assertEqual(self.world.clocks, [4])


class Masters(WorldCase):
    def test_no_such_master(self):
        self.make(3, 2)
        for word in ("rise", "send", "time", "fall", "wake"):
            self.refuses((word, 3), (word, -1), (word, 10 ** 12))

    def test_of_a_fallen_one(self):
        self.make(3, 2)
        self.refuses(("wake", 1))
        self.steps((("fall", 1), ("sent", 0)))
        self.refuses(("rise", 1), ("send", 1), ("time", 1), ("fall", 1), ("wake", 0))
        self.steps((("wake", 1), ("sent", 0)))
        self.refuses(("wake", 1))
        self.steps((("rise", 1), ("sent", 2)))

    def test_rise(self):
        self.make(3)
        self.steps((("rise", 1), ("sent", 2)))
        self.way(("stand", 1, 0, 1), ("stand", 1, 2, 1))
        self.assertEqual(self.world.masters[1].role, "stands")

    def test_one_that_comes_to_lead(self):
        self.make(3, 0)
        self.step("pass", 7, [7, 7, 7])
        self.step("rise", 1)
        self.steps((("carry", 1), ("heard",)))
        self.way(("stand", 1, 0, 1), ("voice", 2, 1, 1, 0, ()))
        self.steps((("carry", 1), ("heard",)))
        row = ("lead", 1, 7)
        self.assertEqual(self.world.masters[1].log, [row])
        self.way(("stand", 1, 0, 1), ("keep", 1, 0, 1, (row,), 0), ("keep", 1, 2, 1, (row,), 0))
        self.steps((("carry", 0), ("heard",)))
        self.steps((("carry", 2), ("heard",)))
        self.assertEqual(self.world.masters[1].log, [row])

    def test_one_that_led_in_its_new_term(self):
        self.make(1, 0)
        self.steps((("rise", 0), ("sent", 0)), (("pass", 4, [4]), ("passed",)), (("rise", 0), ("sent", 0)))
        self.assertEqual(self.world.masters[0].log, [("lead", 0, 0), ("lead", 0, 4)])
        self.make(3, 0)
        self.lead(2)
        self.step("pass", 4, [4, 4, 4])
        self.lead(2)
        self.assertEqual(self.world.masters[2].log, [("lead", 2, 0), ("lead", 2, 4)])
        self.assertEqual([master.term for master in self.world.masters], [5, 5, 5])

    def test_time(self):
        self.make(3, 0)
        self.lead(1)
        self.step("pass", 6, [6, 6, 6])
        self.steps((("time", 0), ("sent", 0)), (("time", 1), ("sent", 2)))
        rows = (("lead", 1, 0), ("time", 6))
        self.way(("keep", 1, 0, 1, rows, 1), ("keep", 1, 2, 1, rows, 1))
        self.assertEqual(self.world.masters[1].log, list(rows))

    def test_send(self):
        self.make(3, 0)
        self.step("rise", 1)
        self.steps((("send", 1), ("sent", 0)), (("send", 0), ("sent", 0)))
        self.clear()
        self.steps((("send", 0), ("sent", 0)), (("send", 1), ("sent", 2)))
        rows = (("lead", 1, 0),)
        self.way(("keep", 1, 0, 1, rows, 1), ("keep", 1, 2, 1, rows, 1))

    def test_its_own_reading(self):
        self.make(3, 0, WIDE)
        self.step("pass", 10, [5, 9, 15])
        self.lead(2)
        self.step("time", 2)
        self.assertEqual(self.world.masters[2].log, [("lead", 2, 15), ("time", 15)])
        self.clear()
        self.lead(0)
        self.assertEqual(self.world.masters[0].log[2], ("lead", 0, 5))

    def test_fall(self):
        self.make(3, 1)
        self.lead(0)
        self.begin(0)
        self.ask(0, ("make", "/a", "x"))
        self.step("send", 0)
        self.clear()
        places = [desk.place for desk in self.world.desks]
        self.assertEqual(places, [3, 3, 3])
        log = list(self.world.masters[1].log)
        self.steps((("fall", 1), ("sent", 0)))
        self.assertEqual(desk_state(self.world.desks[1]), desk_state(Desk(KEPT)))
        self.assertEqual(self.world.masters[1].log, log)
        self.assertEqual(self.world.masters[1].done, 0)
        self.step("send", 0)
        self.steps((("copy", 0), ("astray",)), (("carry", 0), ("astray",)), (("carry", 0), ("heard",)))
        self.clear()
        self.assertEqual(self.world.desks[1].place, 0)
        self.steps((("wake", 1), ("sent", 0)))
        self.assertEqual(self.world.desks[1].place, 0)
        self.step("send", 0)
        self.clear()
        self.assertEqual(desk_state(self.world.desks[1]), desk_state(self.world.desks[0]))
        self.assertEqual(self.world.desks[1].place, 3)

    def test_fall_of_the_one_that_leads(self):
        self.alone(1)
        self.assertEqual(self.ask(0, ("make", "/a", "x")), ("made", 2))
        self.step("fall", 0)
        self.assertEqual(self.world.masters[0].role, "hears")
        self.assertEqual(rows_of(self.world.desks[0].shelf), rows_of(Desk(KEPT).shelf))
        self.step("wake", 0)
        self.assertEqual(self.world.desks[0].place, 0)
        self.steps((("time", 0), ("sent", 0)), (("rise", 0), ("sent", 0)))
        self.assertEqual(self.world.masters[0].log[3], ("lead", 0, 0))
        self.assertEqual(self.world.desks[0].place, 4)
        self.assertEqual(node_at(self.world.desks[0].shelf, "/a"), 2)
        self.way()
        self.assertEqual(self.ask(0, ("open", "/a")), ("file", 2, 0, "x", 5))


class Asking(WorldCase):
    def test_no_such_hand_or_master(self):
        self.make(2, 3)
        for h, m in ((3, 0), (-1, 0), (0, 2), (0, -1), (9, 9)):
            self.refuses(("begin", h, m), ("ask", h, m, ("look",)), ("again", h, m))
        self.step("begin", 0, 0)
        for m in (2, -1):
            self.refuses(("ask", 0, m, ("look",)), ("again", 0, m))

    def test_messages(self):
        self.make(2, 2)
        self.steps((("begin", 1, 0), ("asked",)), (("again", 1, 1), ("asked",)), (("begin", 1, 1), ("asked",)))
        self.way(("ask", 1, 0, 1, 0, ("begin",)), ("ask", 1, 1, 1, 0, ("begin",)), ("ask", 1, 1, 2, 0, ("begin",)))

    def test_refused(self):
        self.make(1, 2)
        self.steps((("ask", 0, 0, ("look",)), ("refused", "session")), (("again", 0, 0), ("refused", "none")),
                   (("begin", 0, 0), ("asked",)), (("ask", 0, 0, ("look",)), ("refused", "busy")),
                   (("ask", 1, 0, ("look",)), ("refused", "session")))
        self.way(("ask", 0, 0, 1, 0, ("begin",)))
        self.assertEqual(story_of(self.world), [("ask", 0, 1, ("begin",))])

    def test_to_a_fallen_master(self):
        self.make(1, 1)
        self.step("fall", 0)
        self.steps((("begin", 0, 0), ("asked",)), (("again", 0, 0), ("asked",)), (("carry", 1), ("astray",)),
                   (("copy", 0), ("astray",)))
        self.way(("ask", 0, 0, 1, 0, ("begin",)))
        self.steps((("carry", 0), ("astray",)))
        self.way()

    def test_heard_by_one_that_does_not_lead(self):
        self.make(2, 1)
        self.step("begin", 0, 1)
        before = [master_state(master) for master in self.world.masters]
        self.steps((("copy", 0), ("heard",)), (("carry", 0), ("heard",)))
        self.assertEqual([master_state(master) for master in self.world.masters], before)
        self.way()
        self.step("rise", 1)
        self.step("again", 0, 1)
        self.steps((("carry", 1), ("heard",)))
        self.assertEqual(self.world.masters[1].log, [])

    def test_heard_by_the_one_that_leads(self):
        self.make(3, 1)
        self.lead(1)
        self.step("pass", 9, [9, 9, 9, 9])
        self.step("begin", 0, 1)
        self.steps((("carry", 0), ("heard",)))
        rows = (("lead", 1, 0), ("ask", 9, 0, 1, 0, ("begin",)))
        self.way(("keep", 1, 0, 1, rows, 1), ("keep", 1, 2, 1, rows, 1))
        self.steps((("carry", 1), ("heard",)))
        self.way(("keep", 1, 0, 1, rows, 1), ("kept", 2, 1, 1, 2))
        self.steps((("carry", 1), ("heard",)))
        self.way(("keep", 1, 0, 1, rows, 1), ("answer", 1, 0, 1, 0, ("begun",)))
        self.steps((("copy", 1), ("told", 0, 0, ("begun",))), (("carry", 1), ("old",)))
        self.way(("keep", 1, 0, 1, rows, 1))

    def test_one_alone_answers_at_once(self):
        self.make(1, 1)
        self.lead()
        self.step("begin", 0, 0)
        self.steps((("copy", 0), ("heard",)))
        self.way(("ask", 0, 0, 1, 0, ("begin",)), ("answer", 0, 0, 1, 0, ("begun",)))
        self.steps((("copy", 0), ("heard",)))
        self.way(("ask", 0, 0, 1, 0, ("begin",)), ("answer", 0, 0, 1, 0, ("begun",)), ("answer", 0, 0, 1, 0, ("begun",)))
        self.steps((("carry", 2), ("told", 0, 0, ("begun",))), (("carry", 1), ("old",)), (("lose", 0), ("lost",)))
        self.assertEqual(len(self.world.masters[0].log), 3)

    def test_told_tells_the_sessions_own_number(self):
        self.alone(1)
        self.step("ask", 0, 0, ("look",))
        self.step("carry", 0)
        self.steps((("carry", 0), ("told", 0, 1, ("ok",))))
        self.begin(0)
        self.step("ask", 0, 0, ("look",))
        self.step("carry", 0)
        self.steps((("carry", 0), ("told", 0, 1, ("ok",))))

    def test_the_hands_own_reading(self):
        self.make(1, 2, WIDE)
        self.lead()
        self.step("pass", 100, [100, 50, 150])
        self.begin(1)
        self.assertIs(self.world.hands[1].holds(150 + HELD - 1), True)
        self.assertIs(self.world.hands[1].holds(150 + HELD), False)


class Messages(WorldCase):
    def setUp(self):
        self.make(1, 3)
        for h in range(3):
            self.step("begin", h, 0)
        self.messages = list(self.world.way)

    def test_no_such_message(self):
        for word in ("carry", "copy", "lose"):
            self.refuses((word, 3), (word, -1), (word, 10 ** 12))
        self.steps((("rest", 3), ("rested", 3)))
        for word in ("carry", "copy", "lose"):
            self.refuses((word, 0))

    def test_at_every_place(self):
        for word, told in (("carry", "heard"), ("copy", "heard"), ("lose", "lost")):
            for place in range(3):
                self.setUp()
                self.steps(((word, place), (told,)))
                left = list(self.messages)
                if word != "copy":
                    left.pop(place)
                self.way(*left)

    def test_what_comes_of_it_goes_behind(self):
        self.lead_and_begin()
        self.steps((("carry", 1), ("heard",)))
        self.way(self.messages[0], self.messages[2], ("answer", 0, 1, 1, 0, ("begun",)))
        self.steps((("copy", 0), ("heard",)))
        self.way(self.messages[0], self.messages[2], ("answer", 0, 1, 1, 0, ("begun",)),
                 ("answer", 0, 0, 1, 0, ("begun",)))

    def lead_and_begin(self):
        self.assertEqual(self.step("rise", 0), ("sent", 0))

    def test_rest(self):
        self.lead_and_begin()
        self.steps((("rest", 0), ("rested", 0)))
        self.way(*self.messages)
        self.steps((("rest", 2), ("rested", 2)))
        self.way(self.messages[2], ("answer", 0, 0, 1, 0, ("begun",)), ("answer", 0, 1, 1, 0, ("begun",)))
        self.steps((("rest", 10 ** 12), ("rested", 4)), (("rest", 5), ("rested", 0)))
        self.way()

    def test_rest_at_a_fallen_master(self):
        self.step("fall", 0)
        self.steps((("rest", 2), ("rested", 2)), (("rest", 2), ("rested", 1)))

    def test_lost_is_not_heard(self):
        self.lead_and_begin()
        self.steps((("lose", 0), ("lost",)), (("rest", 99), ("rested", 4)))
        self.assertEqual([row[0] for row in sessions(self.world.desks[0])], [1, 2])


class Calls(WorldCase):
    def setUp(self):
        self.alone(2)
        self.assertEqual(self.ask(0, ("make", "/f", "one")), ("made", 2))
        self.assertEqual(self.ask(0, ("open", "/f")), ("file", 2, 0, "one", 5))
        self.step("ask", 1, 0, ("shut", 2, 0, "two"))
        self.steps((("carry", 0), ("heard",)))

    def wait_at_master_2(self):
        """Of three masters 2 leads, and hand 1's shut waits for what hand 0 keeps by the stamp 5."""
        self.make(3, 2)
        self.lead(2)
        self.begin(0, 1, m=2)
        self.ask(0, ("make", "/f", ""), 2)
        self.ask(0, ("open", "/f"), 2)
        self.step("ask", 1, 2, ("shut", 2, 0, "two"))
        self.step("rest", 5)

    def test_call_and_back(self):
        self.way(("call", 0, 0, 2, 5))
        self.steps((("see", 0, 2), ("seen", (0, "one"))), (("copy", 0), ("heard",)), (("see", 0, 2), ("seen", None)))
        self.way(("call", 0, 0, 2, 5), ("back", 0, 0, 1, 2, 5))
        self.steps((("lose", 0), ("lost",)), (("pass", 3, [3, 3, 3]), ("passed",)), (("carry", 0), ("heard",)))
        self.assertEqual(self.world.masters[0].log[-1], ("back", 3, 0, 1, 2, 5))
        self.way(("answer", 0, 1, 1, 1, ("shut", 1, 7)))
        self.steps((("carry", 0), ("told", 1, 1, ("shut", 1, 7))), (("see", 1, 2), ("seen", (1, "two"))))

    def test_send_calls_again(self):
        self.steps((("send", 0), ("sent", 1)), (("send", 0), ("sent", 1)))
        self.way(*[("call", 0, 0, 2, 5)] * 3)
        self.clear()
        self.steps((("send", 0), ("sent", 0)))

    def test_one_that_does_not_lead_calls_nobody(self):
        self.wait_at_master_2()
        self.lose_all()
        for times in range(2):
            self.step("send", 2)
            self.steps((("rest", 2), ("rested", 2)))
            self.lose_all()
        for desk in self.world.desks:
            self.assertEqual(calls_due(desk), [(0, 2, 5)])
        self.steps((("send", 0), ("sent", 0)), (("send", 1), ("sent", 0)))
        self.step("rise", 2)
        self.steps((("send", 2), ("sent", 0)))
        self.way(("stand", 2, 0, 5), ("stand", 2, 1, 5))

    def test_back_at_one_that_does_not_lead(self):
        self.steps((("carry", 0), ("heard",)))
        self.step("fall", 0)
        self.steps((("copy", 0), ("astray",)))
        self.step("wake", 0)
        log = list(self.world.masters[0].log)
        self.steps((("carry", 0), ("heard",)))
        self.assertEqual(self.world.masters[0].log, log)
        self.way()

    def test_back_goes_to_the_master_that_called(self):
        self.wait_at_master_2()
        calls = [place for place, message in enumerate(self.world.way) if message[0] == "call"]
        self.assertEqual(self.world.way[calls[0]][:3], ("call", 2, 0))
        self.step("carry", calls[0])
        self.assertEqual(self.world.way[-1], ("back", 0, 2, 1, 2, 5))

    def test_sent_counts_messages_and_calls(self):
        self.wait_at_master_2()
        self.lose_all()
        self.steps((("send", 2), ("sent", 3)))
        self.assertEqual([message[0] for message in self.world.way], ["keep", "keep", "call"])

    def test_answers_of_time(self):
        # The hand that keeps the file ends by time, and the shut is done in that row.
        self.lose_all()
        self.step("pass", 50, [50, 50, 50])
        self.step("again", 1, 0)
        self.step("carry", 0)
        self.way()
        self.step("pass", 50, [50, 50, 50])
        self.steps((("time", 0), ("sent", 1)))
        self.way(("answer", 0, 1, 1, 1, ("shut", 1, 8)))


class Written(WorldCase):
    """Which rows are answered, and in what order that goes on the way."""

    def test_row_by_row(self):
        # Two masters: a kept by which two rows are written at once, the first with a call, the second with an answer.
        self.make(2, 2)
        self.lead(0)
        self.begin(0, 1)
        self.ask(0, ("make", "/f", ""))
        self.ask(0, ("open", "/f"))
        self.step("ask", 1, 0, ("shut", 2, 0, "two"))
        self.step("ask", 0, 0, ("look",))
        self.steps((("carry", 0), ("heard",)), (("carry", 0), ("heard",)))
        self.assertEqual([message[0] for message in self.world.way], ["keep", "keep"])
        self.steps((("lose", 0), ("lost",)), (("carry", 0), ("heard",)), (("carry", 0), ("heard",)))
        self.way(("call", 0, 0, 2, 5), ("answer", 0, 0, 1, 3, ("ok",)))

    def test_answers_ahead_of_calls_in_one_row(self):
        self.alone(4)
        self.ask(0, ("make", "/f", ""))
        self.assertEqual(self.ask(0, ("lock", 2, "write", 0, 5)), ("held",))
        self.assertIsNone(self.ask(2, ("lock", 2, "write", 0, 5)))
        self.step("pass", 60, [60] * 5)
        self.step("again", 2, 0)
        self.clear()
        stamp = self.ask(1, ("open", "/f"))[4]
        self.ask(3, ("look",))
        self.step("pass", 40, [40] * 5)
        self.step("ask", 3, 0, ("shut", 2, 0, "z"))
        self.steps((("carry", 0), ("heard",)))
        self.way(("answer", 0, 2, 1, 1, ("held",)), ("call", 0, 1, 2, stamp))

    def test_rows_ahead_of_the_own_lead_are_not_answered(self):
        self.make(3, 1)
        self.lead(0)
        self.step("begin", 0, 0)
        self.step("carry", 0)
        self.way(*[("keep", 0, m, 3, (("lead", 0, 0), ("ask", 0, 0, 1, 0, ("begin",))), 1) for m in (1, 2)])
        self.steps((("carry", 0), ("heard",)), (("carry", 0), ("heard",)))
        self.lose_all()
        self.step("fall", 0)
        self.assertEqual([desk.place for desk in self.world.desks], [0, 1, 1])
        self.step("rise", 1)
        self.clear()
        self.assertEqual(self.world.masters[1].role, "leads")
        self.assertEqual(self.world.masters[1].log[2][:2], ("lead", 1))
        self.assertEqual(self.world.desks[1].place, 3)
        self.assertEqual(sessions(self.world.desks[1]), [(0, 1, KEPT)])
        self.assertEqual(self.world.hands[0].again(), ("ask", 0, 1, 0, ("begin",)))
        self.step("again", 0, 1)
        self.clear()
        self.assertIsNone(self.world.hands[0].again())

    def test_rows_behind_an_elder_lead_of_its_own_are_not_answered(self):
        self.make(3, 1)
        self.lead(0)
        self.step("begin", 0, 0)
        self.step("carry", 0)
        self.steps((("carry", 0), ("heard",)), (("carry", 0), ("heard",)))
        self.lose_all()
        self.step("rise", 0)
        self.clear()
        self.assertEqual([row[0] for row in self.world.masters[0].log], ["lead", "ask", "lead"])
        self.assertEqual(self.world.desks[0].place, 3)
        self.assertIsNotNone(self.world.hands[0].again())

    def test_only_the_one_that_leads_answers(self):
        self.make(3, 1)
        self.lead(0)
        self.step("begin", 0, 0)
        answers = []
        while self.world.way:
            answers += [message for message in self.world.way[:1] if message[0] == "answer"]
            self.step("carry", 0)
        self.step("send", 0)
        answers += [message for message in self.world.way if message[0] == "answer"]
        self.clear()
        self.assertEqual([desk.place for desk in self.world.desks], [2, 2, 2])
        self.assertEqual(answers, [("answer", 0, 0, 1, 0, ("begun",))])

    def test_nothing_is_answered_that_is_not_written(self):
        self.make(3, 1)
        self.lead(0)
        for m in (1, 2):
            self.step("fall", m)
        self.step("begin", 0, 0)
        self.clear()
        self.assertEqual(len(self.world.masters[0].log), 2)
        self.assertEqual(self.world.desks[0].place, 1)
        self.assertIsNotNone(self.world.hands[0].again())
        self.step("wake", 2)
        self.step("send", 0)
        self.clear()
        self.assertIsNone(self.world.hands[0].again())

    def test_a_row_of_one_that_lost_the_lead_is_gone(self):
        self.make(3, 2)
        self.lead(0)
        self.begin(0, 1)
        self.step("ask", 0, 0, ("make", "/old", ""))
        self.step("carry", 0)
        self.lose_all()
        self.step("rise", 1)
        self.steps((("lose", 0), ("lost",)))
        self.clear()
        self.assertEqual((self.world.masters[0].role, self.world.masters[1].role), ("hears", "leads"))
        self.step("send", 1)
        self.clear()
        self.assertEqual(self.ask(1, ("open", "/old"), 1), ("refused", "lacks"))
        self.step("again", 0, 1)
        self.clear()
        self.assertEqual(self.ask(1, ("see", 2), 1)[:4], ("file", 2, 0, ""))


class Hands(WorldCase):
    def test_no_such_hand(self):
        self.make(1, 2)
        for h in (2, -1):
            self.refuses(("see", h, 2), ("work", h, ("make", 0, "n", "")))

    def test_see(self):
        self.alone(2)
        self.ask(0, ("make", "/f", ""))
        self.steps((("see", 0, 2), ("seen", None)))
        self.assertEqual(self.ask(0, ("open", "/f")), ("file", 2, 0, "", 5))
        self.steps((("see", 0, 2), ("seen", (0, ""))), (("see", 1, 2), ("seen", None)), (("see", 0, 9), ("seen", None)))
        self.step("pass", HELD - 1, [HELD - 1] * 3)
        self.steps((("see", 0, 2), ("seen", (0, ""))))
        self.step("pass", 1, [1] * 3)
        self.steps((("see", 0, 2), ("seen", None)))

    def test_work(self):
        self.alone(2)
        deed = ("make", 0, "n", "x")
        self.steps((("work", 0, deed), ("refused", "holds")))
        self.step("pass", HELD, [HELD] * 3)
        self.steps((("work", 0, deed), ("worked",)), (("work", 0, ("shut", 2, 0, "y")), ("worked",)))
        self.assertEqual(self.world.hands[0].deeds(), (deed, ("shut", 2, 0, "y")))
        self.assertEqual(self.ask(0, ("join", self.world.hands[0].deeds())),
                         ("joined", [("made", 2), ("put", 1)]))
        self.assertEqual(self.world.hands[0].deeds(), ())
        self.assertEqual(rows_of(self.world.desks[0].shelf)[2], ("file", 2, 1, "y"))

    def test_clashes(self):
        self.alone(2)
        self.ask(0, ("make", "/f", "one"))
        self.ask(0, ("open", "/f"))
        self.step("pass", HELD, [HELD] * 3)
        self.step("work", 0, ("shut", 2, 0, "mine"))
        self.begin(1)
        self.step("pass", 20, [20] * 3)
        self.assertEqual(self.ask(1, ("shut", 2, 0, "theirs"))[:2], ("shut", 1))
        self.begin(0)
        self.assertEqual(self.ask(0, ("join", self.world.hands[0].deeds())), ("joined", [("clash", 3, "stale")]))
        self.assertEqual(rows_of(self.world.desks[0].shelf)[2:], [("file", 2, 1, "theirs"), ("file", 3, 0, "mine")])

    def test_held_now(self):
        self.alone(3)
        self.ask(0, ("make", "/f", ""))
        self.ask(0, ("make", "/g", ""))
        for h, request in ((2, ("lock", 2, "read", 0, 5)), (0, ("lock", 2, "read", 0, 5)), (1, ("lock", 3, "write", 1, 2)),
                           (0, ("lock", 2, "write", 7, 9))):
            self.assertEqual(self.ask(h, request), ("held",))
        rows = [(2, 0, 5, "read", 0), (2, 0, 5, "read", 2), (2, 7, 9, "write", 0), (3, 1, 2, "write", 1)]
        self.assertEqual(held_now(self.world), rows)
        held_now(self.world).clear()
        self.assertEqual(held_now(self.world), rows)
        self.assertIsNone(self.ask(1, ("lock", 2, "write", 0, 5)))
        self.step("pass", HELD - 1, [HELD - 1] * 4)
        self.assertEqual(held_now(self.world), rows)
        self.step("pass", 1, [1] * 4)
        self.assertEqual(held_now(self.world), [])

    def test_held_now_by_each_hands_own_clock(self):
        self.make(1, 2, WIDE)
        self.lead()
        self.begin(0, 1)
        self.ask(0, ("make", "/f", ""))
        for h in (0, 1):
            self.assertEqual(self.ask(h, ("lock", 2, "read", 0, 5)), ("held",))
        self.step("pass", HELD, [HELD, HELD, HELD // 2])
        self.assertEqual(held_now(self.world), [(2, 0, 5, "read", 1)])


class Owned(WorldCase):
    def test_requests_handed_in(self):
        self.alone(1)
        deeds = [("make", 0, "n", "x")]
        event = ("ask", 0, 0, ("join", deeds))
        self.steps((event, ("asked",)))
        deeds.append(("make", 0, "m", "y"))
        self.assertEqual(self.world.way[0][5], ("join", [("make", 0, "n", "x")]))
        self.assertEqual(story_of(self.world)[-1], ("ask", 0, 2, ("join", [("make", 0, "n", "x")])))
        self.clear()
        self.assertEqual(story_of(self.world)[-1], ("told", 0, 2, ("joined", [("made", 2)])))

    def test_deeds_handed_in(self):
        self.make(1, 1)
        event = ("work", 0, ("make", 0, "n", ""))
        self.step(*event)
        self.assertEqual(event, ("work", 0, ("make", 0, "n", "")))

    def test_told(self):
        self.alone(1)
        self.step("ask", 0, 0, ("open", "/"))
        self.step("carry", 0)
        told = self.step("copy", 0)
        self.assertEqual(told, ("told", 0, 1, ("folder", 0, ["clash"])))
        told[3][2].append("z")
        self.way(("answer", 0, 0, 1, 1, ("folder", 0, ["clash"])))
        self.assertEqual(story_of(self.world)[-1], ("told", 0, 2, ("folder", 0, ["clash"])))

    def test_the_same_events_make_the_same_world(self):
        events = [("rise", 0), ("rest", 50), ("begin", 0, 0), ("begin", 1, 0), ("rest", 9), ("ask", 0, 0, ("look",)),
                  ("copy", 0), ("rest", 40), ("fall", 1), ("pass", 5, [5] * 5), ("time", 0), ("rest", 40)]
        worlds = [World(3, 2, KEPT, HELD, EVEN) for times in range(2)]
        for event in events:
            self.assertEqual(step(worlds[0], event), step(worlds[1], event))
        self.assertEqual(state(worlds[0]), state(worlds[1]))


if __name__ == "__main__":
    unittest.main()

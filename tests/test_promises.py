"""What holds over the whole program, behind each event of worlds drawn by a seed."""
import collections
import itertools
import unittest

from drawn_worlds import Drawn
from farshelf.clocks import longest
from farshelf.desk import calls_due, keeps, sessions
from farshelf.errors import BadEvent
from farshelf.locks import against, held
from farshelf.looker import looked
from farshelf.masters import next_log
from farshelf.shelf import rows_of
from farshelf.stories import story_fault, story_of
from farshelf.world import World, held_now, step


def two_against(world):
    """The rows of held_now of some file of which two are against one another, None where there are none."""
    files = {}
    for row in held_now(world):
        files.setdefault(row[0], []).append(row[1:])
    for rows in files.values():
        if against(rows) is not None:
            return rows
    return None


def told_by(desk):
    stretches = [(file, held(desk.locks, file)) for file in range(2, 8)]
    return (rows_of(desk.shelf), sessions(desk), keeps(desk), calls_due(desk), stretches)


class Watch:
    """What was so far: rows known to be written, by place what desks told, by term who led."""

    def __init__(self, case, world):
        self.case = case
        self.world = world
        self.written = []
        self.told = {}
        self.leaders = {}

    def look(self):
        world = self.world
        self.case.assertIsNone(two_against(world))
        for master, desk in zip(world.masters, world.desks):
            self.look_at_master(master)
            self.case.assertEqual(desk.place, master.done)
            if desk.place not in self.told:
                self.case.assertIsNone(looked(rows_of(desk.shelf)))
                self.told[desk.place] = told_by(desk)
            self.case.assertEqual(told_by(desk), self.told[desk.place])
        most = len(world.masters) // 2 + 1
        for some in itertools.combinations(range(len(world.masters)), most):
            self.case.assertEqual(next_log(world.masters, some)[:len(self.written)], self.written)

    def look_at_master(self, master):
        known = master.log[:master.done]
        self.case.assertEqual(known[:len(self.written)], self.written[:len(known)])
        if len(known) > len(self.written):
            self.written = known
        if master.role == "leads":
            self.case.assertEqual(self.leaders.setdefault(master.term, master.number), master.number)


class Promises(unittest.TestCase):
    def run_drawn(self, seed, steps, counts, **choices):
        drawn = Drawn(seed, **choices)
        watch = Watch(self, drawn.world)
        rows = 0
        for times in range(steps):
            event, told = drawn.go()
            with_what = told[3][0] if told[0] == "told" else told[1] if told[0] == "refused" else ""
            counts[f"{told[0]} {with_what}".strip()] += 1
            watch.look()
            story = story_of(drawn.world)
            if len(story) > rows:
                rows = len(story)
                self.assertIsNone(story_fault(story), (seed, times))
        counts["written"] += len(watch.written)
        counts["leaders"] += len(watch.leaders)
        for row in story:
            if row[0] in ("told", "saw"):
                counts["in all " + (row[3][0] if row[0] == "told" else "saw")] += 1

    def test_drawn_worlds(self):
        counts = collections.Counter()
        for seed in range(60):
            with self.subTest(seed=seed):
                self.run_drawn(seed, 300, counts)
        # So much must come about, or the events would show nothing.
        for what, least in (("heard", 1000), ("astray", 100), ("lost", 100), ("old", 50), ("rested", 100), ("passed", 100),
                            ("sent", 100), ("asked", 100), ("worked", 50), ("refused holds", 20), ("refused busy", 5),
                            ("refused none", 1), ("written", 1000), ("leaders", 90), ("in all begun", 100),
                            ("in all ended", 20), ("in all file", 100), ("in all shut", 50), ("in all held", 100),
                            ("in all joined", 30), ("in all refused", 50), ("in all saw", 50)):
            self.assertGreaterEqual(counts[what], least, what)

    def test_many_hands_and_masters(self):
        for seed in range(3):
            with self.subTest(seed=seed):
                self.run_drawn(seed, 250, collections.Counter(), masters=7, hands=10)

    def test_a_longer_lease_is_seen_to_break_them(self):
        """The same worlds with hands that hold longer than longest tells: what is looked for is there to be found."""
        found = collections.Counter()
        for seed in range(100):
            drawn = Drawn(seed, longer=1000)
            for times in range(300):
                drawn.go()
                if two_against(drawn.world) is not None:
                    found["against"] += 1
                    break
            found["story"] += story_fault(story_of(drawn.world)) is not None
        self.assertGreater(found["against"], 3)
        self.assertGreater(found["story"], 1)


class Falling(unittest.TestCase):
    """What was told stays, whichever masters fall, while most of them live."""

    def steps(self, world, *events):
        for event in events:
            step(world, event)
            step(world, ("rest", 10000))

    def last_told(self, world, h):
        return [row[3] for row in story_of(world) if row[:2] == ("told", h)][-1]

    def test_who_opens_sees_what_was_last_shut(self):
        for fallen in ([0], [1], [2], [3], [4], [0, 1], [0, 4], [3, 4], [1, 2]):
            for riser in [m for m in range(5) if m not in fallen]:
                with self.subTest(fallen=fallen, riser=riser):
                    self.shut_fall_and_see(fallen, riser)

    def shut_fall_and_see(self, fallen, riser):
        world = World(5, 2, 100, 80, (1, 1, 1, 1))
        self.steps(world, ("rise", 0), ("begin", 0, 0), ("begin", 1, 0), ("ask", 0, 0, ("make", "/f", "one")))
        # The row of the shut comes to a bare most of the masters, 0, 2 and 4.
        step(world, ("ask", 0, 0, ("shut", 2, 0, "two")))
        step(world, ("carry", 0))
        for m in (1, 3):
            places = [place for place, message in enumerate(world.way) if message[2] == m]
            step(world, ("lose", places[0]))
        step(world, ("rest", 1000))
        self.assertEqual(self.last_told(world, 0), ("shut", 1, 5))
        self.steps(world, *[("fall", m) for m in fallen])
        self.steps(world, ("rise", riser), ("ask", 1, riser, ("open", "/f")))
        self.assertEqual(self.last_told(world, 1)[:4], ("file", 2, 1, "two"))
        self.steps(world, *[("wake", m) for m in fallen])
        self.steps(world, ("send", riser), ("send", riser))
        for desk in world.desks:
            self.assertEqual(rows_of(desk.shelf)[2], ("file", 2, 1, "two"))

    def test_all_goes_on_behind_whatever_was(self):
        """Masters awake and messages carried, each hand is answered again."""
        for seed in range(40):
            drawn = Drawn(seed)
            world = drawn.world
            for times in range(150):
                drawn.go()
            for m, fallen in enumerate(list(world.fallen)):
                if fallen:
                    step(world, ("wake", m))
            step(world, ("rest", 10 ** 6))
            m = seed % len(world.masters)
            # A term may have been used up by one that is ahead, so it rises as often as there are masters.
            for times in range(len(world.masters) + 1):
                if world.masters[m].role != "leads":
                    self.steps(world, ("rise", m))
            self.assertEqual(world.masters[m].role, "leads")
            for h in range(len(world.hands)):
                self.steps(world, ("begin", h, m))
                self.assertEqual(self.last_told(world, h), ("begun",))
                self.steps(world, ("ask", h, m, ("look",)))
                self.assertEqual(self.last_told(world, h), ("ok",))
            self.assertIsNone(story_fault(story_of(world)))
            self.assertIsNone(two_against(world))


class ByOneStep(unittest.TestCase):
    """Two hands, one master, clocks at the ends of their bounds: the lease at longest is safe, one more is not."""

    def second_holds_while_first_does(self, bounds, kept, longer):
        world = World(1, 2, kept, longest(bounds, kept) + longer, bounds)
        for event in (("rise", 0), ("begin", 0, 0), ("begin", 1, 0), ("rest", 99), ("ask", 0, 0, ("make", "/f", "")),
                      ("rest", 99), ("ask", 0, 0, ("lock", 2, "write", 0, 9)), ("rest", 99)):
            step(world, event)
        self.assertEqual(held_now(world), [(2, 0, 9, "write", 0)])
        a, b, c, d = bounds
        span = -(-kept * d // c)
        slowest = -(-span * a // b)
        step(world, ("pass", span, [kept, slowest, span]))
        for event in (("begin", 1, 0), ("rest", 99), ("ask", 1, 0, ("lock", 2, "write", 0, 9)), ("rest", 99)):
            step(world, event)
        self.assertIn((2, 0, 9, "write", 1), held_now(world))
        return two_against(world) is not None

    def test_at_longest_and_one_beside(self):
        for bounds in ((1, 1, 1, 1), (9, 10, 11, 10), (1, 3, 2, 1), (999, 1000, 1001, 1000)):
            for kept in (1, 2, 10, 100, 12345):
                with self.subTest(bounds=bounds, kept=kept):
                    self.assertIs(self.second_holds_while_first_does(bounds, kept, 0), False)
                    self.assertIs(self.second_holds_while_first_does(bounds, kept, 1), True)

    def test_events_that_cannot_be_change_nothing(self):
        drawn = Drawn(3, masters=3, hands=2)
        for times in range(60):
            drawn.go()
            before = (list(drawn.world.way), list(drawn.world.clocks), story_of(drawn.world), held_now(drawn.world))
            for event in (("carry", len(drawn.world.way)), ("rise", 3), ("begin", 2, 0), ("pass", -1, [0] * 5)):
                with self.assertRaises(BadEvent):
                    step(drawn.world, event)
            self.assertEqual((drawn.world.way, drawn.world.clocks, story_of(drawn.world), held_now(drawn.world)), before)


if __name__ == "__main__":
    unittest.main()

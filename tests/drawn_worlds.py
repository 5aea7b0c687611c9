"""Worlds that go through events drawn by a seed: messages carried in any order, twice or lost, masters that fall and
wake, hands that are cut off for a while, clocks that run fast and slow within their bounds."""
import random

from farshelf.clocks import longest
from farshelf.world import World, step

BOUNDS = ((1, 1, 1, 1), (9, 10, 11, 10), (1, 2, 2, 1), (1, 3, 1, 1), (1, 1, 5, 2), (999, 1000, 1001, 1000))
PATHS = ("/a", "/b", "/c", "/d", "/a/b", "/clash/x", "/")


class Drawn:
    """world: the world; draw: the next event. longer: by how much held is more than longest tells."""

    def __init__(self, seed, masters=None, hands=None, longer=0):
        self.chance = random.Random(seed)
        chance = self.chance
        self.bounds = chance.choice(BOUNDS)
        self.kept = chance.choice((10, 40, 100))
        self.held = longest(self.bounds, self.kept) + longer
        self.world = World(masters or chance.choice((1, 1, 2, 3, 3, 4, 5)), hands or chance.choice((2, 3, 4)),
                           self.kept, self.held, self.bounds)
        self.files = (2, 3)
        self.cut_off = None
        self.set_up()

    def set_up(self):
        """One master leads, and there are two files."""
        step(self.world, ("rise", 0))
        step(self.world, ("rest", 1000))
        step(self.world, ("begin", 0, 0))
        for path in ("/a", "/b"):
            step(self.world, ("rest", 1000))
            step(self.world, ("ask", 0, 0, ("make", path, "old")))
        step(self.world, ("rest", 1000))

    def go(self):
        event = self.draw()
        return event, step(self.world, event)

    def draw(self):
        chance = self.chance
        if chance.random() < 0.02:
            self.cut_off = chance.choice((None, chance.randrange(len(self.world.hands))))
        if self.world.way and chance.random() < 0.66:
            return self.message_event()
        if chance.random() < 0.15:
            return self.passing()
        if chance.random() < 0.22:
            return self.master_event()
        return self.hand_event()

    def message_event(self):
        chance = self.chance
        many = len(self.world.way)
        place = chance.choice((0, 0, 0, many - 1, chance.randrange(many)))
        word = chance.choice(("carry",) * 30 + ("copy", "copy", "lose", "rest", "rest", "rest"))
        if word == "rest" and self.cut_off is None:
            return ("rest", chance.choice((0, 3, 10, 40)))
        if word == "rest" or many > 60:
            word = "carry"
        return ("lose" if self.is_cut_off(self.world.way[place]) else word, place)

    def is_cut_off(self, message):
        if message[0] in ("answer", "call"):
            return message[2] == self.cut_off
        return message[0] in ("ask", "back") and message[1] == self.cut_off

    def growth(self, span, clock):
        """Often the masters' clocks run as fast as can be, and the hands' as slow."""
        a, b, c, d = self.bounds
        least = -(-span * a // b)
        greatest = span * c // d
        worst = greatest if clock < len(self.world.masters) else least
        return self.chance.choice((least, greatest, worst, worst, worst, self.chance.randint(least, greatest)))

    def passing(self):
        span = self.chance.choice((0, 1, 1, 2, 3, self.kept // 8, self.kept // 4, self.kept // 2))
        return ("pass", span, [self.growth(span, clock) for clock in range(len(self.world.clocks))])

    def master_event(self):
        chance = self.chance
        world = self.world
        fallen = [m for m in range(len(world.masters)) if world.fallen[m]]
        awake = [m for m in range(len(world.masters)) if not world.fallen[m]]
        leading = [m for m in awake if world.masters[m].role == "leads"]
        word = chance.choice(("rise", "rise", "send", "send", "send", "time", "time", "time", "fall", "wake", "wake"))
        if fallen and (word in ("wake", "fall") or not awake):
            return ("wake", chance.choice(fallen))
        if not leading and word not in ("fall", "wake"):
            word = "rise"
        if word == "wake" or word == "rise" and leading and chance.random() < 0.7:
            word = "send"
        return (word, chance.choice(leading if leading and word in ("send", "time") else awake))

    def hand_event(self):
        chance = self.chance
        world = self.world
        h = chance.randrange(len(world.hands))
        hand = world.hands[h]
        m = self.some_master()
        word = chance.choice(("ask",) * 12 + ("see",) * 4 + ("begin", "work", "work", "join"))
        if word == "work":
            return ("work", h, self.deed(hand))
        if word == "see" or h == self.cut_off:
            return ("see", h, chance.choice(self.files))
        if not hand.lives or word == "begin" and chance.random() < 0.3:
            return ("begin", h, m)
        if chance.random() < 0.02 or hand.request is not None and chance.random() < 0.9:
            return chance.choice((("again", h, m), ("see", h, chance.choice(self.files))))
        if word == "join":
            return ("ask", h, m, ("join", hand.deeds()))
        return ("ask", h, m, self.request(hand))

    def some_master(self):
        world = self.world
        leading = [m for m in range(len(world.masters)) if world.masters[m].role == "leads"]
        if leading and self.chance.random() < 0.85:
            return self.chance.choice(leading)
        return self.chance.randrange(len(world.masters))

    def version(self, hand, file):
        versions = [row[1] for row in hand.copies() if row[0] == file]
        return self.chance.choice(versions * 6 + [0, 1])

    def deed(self, hand):
        chance = self.chance
        file = chance.choice(self.files)
        if chance.random() < 0.7:
            return ("shut", file, self.version(hand, file), chance.choice(("w", "x.y", "")))
        return ("make", chance.choice((0, 0, 1, file)), chance.choice("abcd"), "alone")

    def request(self, hand):
        chance = self.chance
        file = chance.choice(self.files)
        path = chance.choice(PATHS)
        known = chance.choice(PATHS[:3])
        low = chance.randrange(4)
        content = f"s{chance.randrange(1000)}"
        lock = ("lock", file, chance.choice(("read", "write")), low, low + chance.choice((1, 3, 6)))
        shut = ("shut", file, self.version(hand, file), content)
        return chance.choice((("see", file),) * 5 + (("open", known),) * 3 + (shut,) * 8 + (lock,) * 10 + (
            ("look",), ("free", file, low, low + 4), ("free", file, low, low + 4), ("make", path, "new"),
            ("fold", path), ("link", path, file), ("open", path),
            chance.choice((("drop", path), ("move", path, chance.choice(PATHS)), ("look",), ("look",)))))

import copy
import random
import unittest

from farshelf.stories import story_fault, story_of
from farshelf.world import World, step


def world_after(*events, masters=1, hands=2):
    world = World(masters, hands, 100, 80, (1, 1, 1, 1))
    step(world, ("rise", 0))
    step(world, ("rest", 100))
    for event in events:
        step(world, event)
    return world


REST = ("rest", 100)


class StoryOf(unittest.TestCase):
    def tells(self, world, *rows):
        self.assertEqual(story_of(world), list(rows))

    def test_new(self):
        self.tells(World(3, 2, 100, 80, (1, 1, 1, 1)))
        self.tells(world_after())

    def test_asks_at_their_first_telling(self):
        world = world_after(("begin", 1, 0), ("again", 1, 0), ("again", 1, 0))
        self.tells(world, ("ask", 1, 1, ("begin",)))
        step(world, REST)
        self.tells(world, ("ask", 1, 1, ("begin",)), ("told", 1, 1, ("begun",)))
        step(world, ("ask", 1, 0, ("fold", "/a")))
        step(world, ("begin", 0, 0))
        step(world, ("again", 1, 0))
        step(world, ("ask", 1, 0, ("look",)))
        self.tells(world, ("ask", 1, 1, ("begin",)), ("told", 1, 1, ("begun",)), ("ask", 1, 2, ("fold", "/a")),
                   ("ask", 0, 1, ("begin",)))

    def test_counted_through_all_sessions(self):
        world = world_after(("begin", 0, 0), REST, ("ask", 0, 0, ("look",)), ("begin", 0, 0), REST,
                            ("ask", 0, 0, ("look",)), REST)
        self.tells(world, ("ask", 0, 1, ("begin",)), ("told", 0, 1, ("begun",)), ("ask", 0, 2, ("look",)),
                   ("ask", 0, 3, ("begin",)), ("told", 0, 3, ("begun",)), ("ask", 0, 4, ("look",)),
                   ("told", 0, 4, ("ok",)))

    def test_refused_asks_are_none(self):
        world = world_after(("ask", 0, 0, ("look",)), ("again", 0, 0), ("begin", 0, 0), ("ask", 0, 0, ("look",)))
        self.tells(world, ("ask", 0, 1, ("begin",)))

    def test_answers_taken(self):
        world = world_after(("begin", 0, 0), ("again", 0, 0), ("carry", 0), ("carry", 0), ("copy", 0), ("carry", 0),
                            ("carry", 0))
        self.tells(world, ("ask", 0, 1, ("begin",)), ("told", 0, 1, ("begun",)))
        world = world_after(("begin", 0, 0), ("carry", 0), ("begin", 0, 0), ("carry", 0))
        self.tells(world, ("ask", 0, 1, ("begin",)), ("ask", 0, 2, ("begin",)))

    def test_answers_that_wait(self):
        world = world_after(("begin", 0, 0), ("begin", 1, 0), REST, ("ask", 0, 0, ("make", "/f", "")), REST,
                            ("ask", 0, 0, ("lock", 2, "write", 0, 1)), REST, ("ask", 1, 0, ("lock", 2, "read", 0, 1)),
                            REST, ("ask", 0, 0, ("free", 2, 0, 1)), REST)
        self.assertEqual(story_of(world)[8:], [("ask", 1, 2, ("lock", 2, "read", 0, 1)), ("ask", 0, 4, ("free", 2, 0, 1)),
                                               ("told", 0, 4, ("ok",)), ("told", 1, 2, ("held",))])

    def test_copies_seen(self):
        world = world_after(("begin", 0, 0), REST, ("ask", 0, 0, ("make", "/f", "one")), REST, ("see", 0, 2),
                            ("ask", 0, 0, ("see", 2)), REST, ("see", 0, 2), ("see", 0, 3), ("see", 1, 2), ("see", 0, 2),
                            ("pass", 80, [80, 80, 80]), ("see", 0, 2))
        self.assertEqual(story_of(world)[4:], [("ask", 0, 3, ("see", 2)), ("told", 0, 3, ("file", 2, 0, "one", 4)),
                                               ("saw", 0, 2, 0, "one"), ("saw", 0, 2, 0, "one")])

    def test_work_is_no_row(self):
        self.tells(world_after(("work", 0, ("make", 0, "n", ""))))

    def test_told_is_the_askers_own(self):
        world = world_after(("begin", 0, 0), REST, ("ask", 0, 0, ("open", "/")), REST)
        before = copy.deepcopy(story_of(world))
        story_of(world)[-1][3][2].append("z")
        story_of(world).clear()
        self.assertEqual(story_of(world), before)


def ask(h, n, *request):
    return ("ask", h, n, request)


def told(h, n, *what):
    return ("told", h, n, what)


def saw(h, file, version, content=None):
    return ("saw", h, file, version, f"v{version}" if content is None else content)


def shown(h, n, file, version, content=None):
    return told(h, n, "file", file, version, f"v{version}" if content is None else content, 9)


class FaultCase(unittest.TestCase):
    def tells(self, fault, *rows):
        story = list(rows)
        before = copy.deepcopy(story)
        answer = story_fault(story)
        self.assertEqual(answer, fault)
        self.assertEqual(story, before)
        if fault is not None:
            self.assertIsInstance(answer, tuple)


class LessThanAShut(FaultCase):
    def test_none(self):
        self.tells(None)
        self.tells(None, ask(0, 1, "begin"), told(0, 1, "begun"), ask(0, 2, "look"), told(0, 2, "ok"))

    def test_told_ahead_of_the_asking(self):
        shut = [ask(0, 1, "shut", 2, 0, "v1"), told(0, 1, "shut", 1, 5)]
        self.tells((1, 3), *shut, ask(1, 1, "see", 2), shown(1, 1, 2, 0))
        self.tells((1, 3), *shut, ask(1, 1, "open", "/f"), shown(1, 1, 2, 0))
        self.tells((1, 3), *shut, ask(0, 2, "open", "/f"), shown(0, 2, 2, 0))
        for version in (1, 2):
            self.tells(None, *shut, ask(1, 1, "see", 2), shown(1, 1, 2, version))
        self.tells(None, *shut, ask(1, 1, "see", 3), shown(1, 1, 3, 0))

    def test_told_behind_the_asking(self):
        self.tells(None, ask(0, 1, "shut", 2, 0, "v1"), ask(1, 1, "see", 2), told(0, 1, "shut", 1, 5), shown(1, 1, 2, 0))
        self.tells(None, ask(1, 1, "see", 2), ask(0, 1, "shut", 2, 0, "v1"), told(0, 1, "shut", 1, 5), shown(1, 1, 2, 0))
        self.tells(None, ask(0, 1, "shut", 2, 0, "v1"), ask(1, 1, "see", 2), shown(1, 1, 2, 0), told(0, 1, "shut", 1, 5))

    def test_a_saw_counts_from_itself(self):
        shut = [ask(0, 1, "shut", 2, 0, "v1"), told(0, 1, "shut", 1, 5)]
        for h in (0, 1):
            self.tells((1, 2), *shut, saw(h, 2, 0))
            self.tells(None, *shut, saw(h, 2, 1))
            self.tells(None, *shut, saw(h, 3, 0))
            self.tells(None, shut[0], saw(h, 2, 0), shut[1])

    def test_a_shut_that_is_refused_or_not_told(self):
        self.tells(None, ask(0, 1, "shut", 2, 7, "v1"), told(0, 1, "refused", "stale"), saw(1, 2, 0))
        self.tells(None, ask(0, 1, "shut", 2, 7, "v1"), saw(1, 2, 0))

    def test_each_by_its_own_ask(self):
        self.tells((3, 4), ask(0, 1, "shut", 2, 0, "x"), ask(1, 1, "shut", 3, 4, "y"), told(0, 1, "shut", 1, 5),
                   told(1, 1, "shut", 5, 6), saw(2, 3, 4))
        self.tells(None, ask(0, 1, "shut", 2, 0, "x"), ask(1, 1, "shut", 3, 4, "y"), told(0, 1, "shut", 1, 5),
                   told(1, 1, "shut", 5, 6), saw(2, 2, 1))


class LessThanAJoin(FaultCase):
    def joined(self, *parts):
        deeds = (("shut", 2, 0, "a"), ("make", 0, "n", "b"), ("shut", 3, 4, "c"), ("shut", 2, 1, "d"), ("shut", 5, 7, "e"))
        return [ask(0, 1, "join", deeds), told(0, 1, "joined", list(parts))]

    def test_part_by_part(self):
        join = self.joined(("put", 1), ("made", 9), ("put", 5), ("put", 2), ("clash", 10, "stale"))
        for file, version, fault in ((2, 0, True), (2, 1, True), (2, 2, False), (3, 4, True), (3, 5, False),
                                     (5, 0, False), (9, 0, False), (0, 0, False), (10, 0, False)):
            wanted = (1, 2) if fault else None
            self.tells(wanted, *join, saw(1, file, version))
            self.tells((1, 3) if fault else None, *join, ask(1, 1, "see", file), shown(1, 1, file, version))
        self.tells(None, join[0], ask(1, 1, "see", 2), join[1], shown(1, 1, 2, 0))

    def test_a_list_of_deeds(self):
        self.tells((1, 2), ask(0, 1, "join", [("shut", 2, 0, "a")]), told(0, 1, "joined", [("put", 1)]), saw(1, 2, 0))

    def test_clashes_alone(self):
        join = self.joined(("clash", 8, "stale"), ("clash", 9, "there"), ("clash", 10, "stale"), ("clash", 11, "stale"),
                           ("clash", 12, "gone"))
        for file in (2, 3, 5, 8):
            self.tells(None, *join, saw(1, file, 0))

    def test_nothing_joined(self):
        self.tells(None, ask(0, 1, "join", ()), told(0, 1, "joined", []), saw(0, 2, 0))


class LessThanSeenBefore(FaultCase):
    def test_of_the_same_hand(self):
        self.tells((0, 1), saw(0, 2, 3), saw(0, 2, 2))
        self.tells(None, saw(0, 2, 3), saw(0, 2, 3))
        self.tells(None, saw(0, 2, 3), saw(0, 3, 2))
        self.tells((0, 2), saw(0, 2, 3), ask(0, 1, "see", 2), shown(0, 1, 2, 2))
        self.tells((1, 2), ask(0, 1, "see", 2), shown(0, 1, 2, 3), saw(0, 2, 2))
        self.tells((1, 3), ask(0, 1, "see", 2), shown(0, 1, 2, 3), ask(0, 2, "see", 2), shown(0, 2, 2, 2))

    def test_of_another_hand(self):
        self.tells(None, saw(0, 2, 3), saw(1, 2, 2))
        self.tells(None, ask(0, 1, "see", 2), shown(0, 1, 2, 3), ask(1, 1, "see", 2), shown(1, 1, 2, 2), saw(1, 2, 2))

    def test_behind_the_asking(self):
        self.tells(None, ask(0, 1, "see", 2), saw(0, 2, 3), shown(0, 1, 2, 2))
        self.tells((1, 3), ask(0, 1, "see", 2), saw(0, 2, 3), shown(0, 1, 2, 2), saw(0, 2, 2))

    def test_a_shut_of_the_same_hand_is_one_of_any(self):
        self.tells((1, 2), ask(0, 1, "shut", 2, 4, "x"), told(0, 1, "shut", 5, 0), saw(0, 2, 4))


class AnotherContent(FaultCase):
    def test_of_any_hand(self):
        for h in (0, 1):
            self.tells((0, 1), saw(0, 2, 3, "a"), saw(h, 2, 3, "b"))
            self.tells((0, 1), saw(0, 2, 3, ""), saw(h, 2, 3, "b"))
            self.tells(None, saw(0, 2, 3, "a"), saw(h, 2, 3, "a"))
            self.tells(None, saw(0, 2, 3, "a"), saw(h, 3, 3, "b"))
            self.tells(None, saw(0, 2, 3, "a"), saw(h, 2, 4, "b"))
            self.tells((1, 2), ask(0, 1, "see", 2), shown(0, 1, 2, 3, "a"), saw(h, 2, 3, "b"))
        self.tells((1, 3), ask(0, 1, "see", 2), saw(1, 2, 3, "b"), ask(2, 1, "see", 2), shown(0, 1, 2, 3, "a"))

    def test_behind_the_asking_too(self):
        self.tells((1, 2), ask(0, 1, "see", 2), saw(1, 2, 3, "b"), shown(0, 1, 2, 3, "a"))

    def test_contents_of_shuts_are_not_told(self):
        self.tells(None, ask(0, 1, "shut", 2, 0, "a"), told(0, 1, "shut", 1, 5), saw(1, 2, 1, "b"))


class TheLeast(FaultCase):
    def test_k_then_i(self):
        self.tells((0, 2), saw(0, 2, 3), saw(0, 2, 5), saw(0, 2, 1), saw(0, 2, 0))
        self.tells((1, 2), saw(0, 2, 3), saw(0, 2, 5), saw(0, 2, 4), saw(0, 2, 0))
        self.tells((0, 3), saw(1, 2, 3, "a"), saw(0, 2, 3, "a"), saw(0, 2, 4), saw(0, 2, 3, "b"))
        self.tells((2, 3), saw(1, 2, 3, "a"), ask(0, 1, "shut", 2, 0, "x"), told(0, 1, "shut", 9, 0), saw(1, 2, 3, "a"))
        self.tells((0, 3), saw(1, 2, 3, "a"), ask(0, 1, "shut", 2, 0, "x"), told(0, 1, "shut", 9, 0), saw(1, 2, 3, "b"))

    def test_files_apart(self):
        self.tells((1, 3), saw(0, 2, 3), saw(0, 3, 5), saw(0, 2, 4), saw(0, 3, 4), saw(0, 2, 0))


def plain_fault(story):
    """Each pair of rows by itself."""
    def versions(i):
        row = story[i]
        if row[0] != "told":
            return []
        request = [other[3] for other in story if other[:3] == ("ask",) + row[1:3]][0]
        if row[3][0] == "shut":
            return [(request[1], row[3][1])]
        if row[3][0] == "joined":
            return [(deed[1], part[1]) for deed, part in zip(request[1], row[3][1]) if part[0] == "put"]
        return []

    def sight(row):
        if row[0] == "saw":
            return row[2:]
        return row[3][1:4] if row[0] == "told" and row[3][0] == "file" else None

    for k, row in enumerate(story):
        if sight(row) is None:
            continue
        file, version, content = sight(row)
        asking = k if row[0] == "saw" else story.index([other for other in story if other[:3] == ("ask",) + row[1:3]][0])
        for i in range(k):
            other = sight(story[i])
            told_more = [pair for pair in versions(i) if pair[0] == file and pair[1] > version]
            if other and other[0] == file and story[i][1] == row[1] and other[1] > version:
                told_more.append(other)
            if told_more and i < asking:
                return (i, k)
            if other and other[:2] == (file, version) and other[2] != content:
                return (i, k)
    return None


def drawn_story(chance):
    story = []
    counts = [0, 0, 0]
    due = {}
    for times in range(chance.randrange(4, 30)):
        h = chance.randrange(3)
        file = chance.randrange(2, 4)
        version = chance.randrange(len(story) // 6, len(story) // 6 + 3)
        content = chance.choice((f"v{version}",) * 12 + ("odd",))
        if chance.random() < 0.3:
            story.append(saw(h, file, version, content))
        elif h in due:
            n, request = due.pop(h)
            answers = {"see": ("file", file, version, content, 0), "shut": ("shut", version, 0),
                       "join": ("joined", [("put", version), ("clash", 8, "stale"), ("made", 9)])}
            what = chance.choice((answers[request[0]],) * 3 + (("refused", "gone"),))
            story.append(("told", h, n, what))
        else:
            counts[h] += 1
            request = chance.choice((("see", file), ("see", file), ("shut", file, 0, "x"),
                                     ("join", (("shut", file, 0, "x"), ("shut", 5 - file, 0, "x"), ("make", 0, "n", "")))))
            due[h] = (counts[h], request)
            story.append(("ask", h, counts[h], request))
    return story


class Drawn(FaultCase):
    def test_against_each_pair(self):
        chance = random.Random(8)
        found = [0, 0]
        for times in range(3000):
            story = drawn_story(chance)
            fault = plain_fault(story)
            found[fault is None] += 1
            self.tells(fault, *story)
        self.assertGreater(min(found), 500)

    def test_a_long_one(self):
        story = [saw(place % 9, place % 5, place // 50) for place in range(3000)]
        self.tells(None, *story)
        self.tells((85, 3000), *story, saw(4, 0, 0))


if __name__ == "__main__":
    unittest.main()

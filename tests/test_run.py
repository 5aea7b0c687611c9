import unittest

from farshelf.errors import NoRow
from farshelf.run import run

ONE = "world 1 2 100 80 1 1 1 1"
THREE = "world 3 2 100 80 1 1 1 1"


class RunCase(unittest.TestCase):
    def runs(self, first, *pairs):
        """Pairs of a row and its answer."""
        text = "\n".join([first] + [row for row, answer in pairs])
        told = run(text)
        self.assertIsInstance(told, list)
        for (row, answer), found in zip(pairs, told):
            with self.subTest(row=row):
                self.assertEqual(found, answer)
        self.assertEqual(len(told), len(pairs))
        self.assertEqual(run(text), told)

    def asks(self, *pairs):
        """In a world of one master that leads, hands begun; pairs of an ask of hand 0 and the words of its answer."""
        rows = [("rise 0", "sent 0"), ("begin 0 0", "asked"), ("begin 1 0", "asked"), ("rest 9", "rested 4")]
        for number, (request, answer) in enumerate(pairs, start=1):
            rows += [("ask 0 0 " + request, "asked"), ("carry 0", "heard"), ("carry 0", f"told 0 {number} {answer}")]
        self.runs(ONE, *rows)


class Refused(RunCase):
    def test_as_read_sheet(self):
        for text, number in (("", 0), ("\n\n", 0), ("way", 0), (ONE + "\nrise 0\nnone", 2), (ONE + "\n" + ONE, 1),
                             ("\n" + ONE + "\n\n\nway x", 4)):
            with self.assertRaises(NoRow) as taken:
                run(text)
            self.assertEqual(taken.exception.row, number)

    def test_nothing_behind_the_first(self):
        self.runs(ONE)
        self.assertEqual(run("\n" + ONE + "\n \n"), [])


class Events(RunCase):
    def test_words(self):
        self.runs(THREE, ("rise 1", "sent 2"), ("carry 0", "heard"), ("copy 0", "heard"), ("lose 0", "lost"),
                  ("rest 1", "rested 1"), ("rest 99", "rested 5"), ("rest 0", "rested 0"), ("pass 3 3 3 3 3 3", "passed"),
                  ("time 1", "sent 2"), ("time 0", "sent 0"), ("send 1", "sent 2"), ("fall 0", "sent 0"),
                  ("carry 0", "astray"), ("wake 0", "sent 0"), ("see 0 2", "seen -"), ("work 0 make 0 n -", "worked"))

    def test_refusals(self):
        self.runs(ONE, ("ask 0 0 look", "refused session"), ("again 0 0", "refused none"), ("begin 0 0", "asked"),
                  ("ask 0 0 look", "refused busy"), ("again 0 0", "asked"), ("rise 0", "sent 0"), ("rest 9", "rested 4"),
                  ("work 0 make 0 n -", "refused holds"), ("join 1 0", "refused session"))

    def test_old(self):
        self.runs(ONE, ("rise 0", "sent 0"), ("begin 0 0", "asked"), ("carry 0", "heard"), ("copy 0", "told 0 0 begun"),
                  ("carry 0", "old"))

    def test_no_event(self):
        pairs = [(f"{word} {m}", "no event") for word in ("rise", "send", "time", "fall", "wake") for m in (3, 10 ** 11)]
        pairs += [("wake 0", "no event"), ("fall 0", "sent 0"), ("rise 0", "no event"), ("fall 0", "no event")]
        pairs += [(f"{word} 0", "no event") for word in ("carry", "copy", "lose")]
        pairs += [(row, "no event") for row in (
            "begin 2 0", "begin 0 3", "ask 2 0 look", "ask 0 3 look", "again 2 0", "again 0 3", "see 2 0",
            "work 2 make 0 n x", "join 2 0", "join 0 3", "shelf 3", "pass 1 1", "pass 1 1 1 1 1 2", "pass 1 1 1 1 1 0",
            "pass 1 1 1 1 1 1 1")]
        pairs += [("way", "0"), ("story", "-"), ("logs", "0/0 0/0 0/0"), ("held", "-")]
        self.runs(THREE, *pairs)


class Told(RunCase):
    def test_each_answer(self):
        self.asks(("look", "ok"), ("make /f x.y", "made 2"), ("make /e -", "made 3"), ("fold /a", "made 4"),
                  ("link /a/g 2", "ok"), ("move /e /a/e", "ok"), ("drop /f", "ok"), ("open /a", "folder 4 e g"),
                  ("open /a/g", "file 2 0 x.y 12"), ("see 3", "file 3 0 - 13"), ("fold /a/b", "made 5"),
                  ("open /a/b", "folder 5 -"), ("open /", "folder 0 a clash"), ("shut 2 0 two", "shut 1 17"),
                  ("shut 2 0 two", "refused stale"), ("open /A", "refused name"), ("lock 2 read 0 5", "held"),
                  ("free 2 0 5", "ok"), ("see 9", "refused gone"), ("lock 4 read 0 1", "refused kind"),
                  ("drop /", "refused kept"), ("drop /x", "refused lacks"), ("fold /a", "refused there"),
                  ("drop /a", "refused full"), ("move /a /a/b/c", "refused beneath"))

    def test_ended(self):
        self.runs(ONE, ("rise 0", "sent 0"), ("begin 0 0", "asked"), ("rest 9", "rested 2"), ("pass 100 100 100 100", "passed"),
                  ("ask 0 0 look", "asked"), ("carry 0", "heard"), ("carry 0", "told 0 1 ended"),
                  ("ask 0 0 look", "refused session"))

    def test_seen(self):
        self.runs(ONE, ("rise 0", "sent 0"), ("begin 0 0", "asked"), ("rest 9", "rested 2"), ("ask 0 0 make /f -", "asked"),
                  ("rest 9", "rested 2"), ("ask 0 0 see 2", "asked"), ("rest 9", "rested 2"), ("see 0 2", "seen 0 -"),
                  ("see 0 3", "seen -"), ("see 1 2", "seen -"), ("ask 0 0 shut 2 0 x.y", "asked"), ("rest 9", "rested 2"),
                  ("see 0 2", "seen 1 x.y"))

    def test_join_of_the_hands_deeds(self):
        self.runs(ONE, ("rise 0", "sent 0"), ("begin 0 0", "asked"), ("rest 9", "rested 2"), ("join 0 0", "asked"),
                  ("carry 0", "heard"), ("carry 0", "told 0 1 joined -"), ("pass 90 90 90 90", "passed"),
                  ("work 0 make 0 n x", "worked"), ("work 0 shut 2 0 y", "worked"), ("work 0 shut 2 0 z", "worked"),
                  ("join 0 0", "asked"), ("work 0 make 0 m -", "worked"), ("carry 0", "heard"),
                  ("carry 0", "told 0 2 joined made 2 put 1 clash 3 stale"),
                  ("shelf 0", "folder 0 clash 1 n 2, folder 1 c3 3, file 2 1 y, file 3 0 z"), ("join 0 0", "asked"),
                  ("carry 0", "heard"), ("carry 0", "told 0 3 joined made 4"), ("join 0 0", "asked"), ("rest 9", "rested 2"))


class Questions(RunCase):
    def test_shelf(self):
        self.runs(THREE, ("shelf 0", "folder 0 clash 1, folder 1"), ("rise 2", "sent 2"), ("rest 99", "rested 8"),
                  ("begin 0 2", "asked"), ("rest 99", "rested 6"), ("ask 0 2 make /f -", "asked"), ("rest 99", "rested 6"),
                  ("ask 0 2 fold /a", "asked"), ("rest 99", "rested 6"), ("ask 0 2 make /a/g x.y", "asked"),
                  ("rest 99", "rested 6"),
                  ("shelf 2", "folder 0 a 3 clash 1 f 2, folder 1, file 2 0 -, folder 3 g 4, file 4 0 x.y"),
                  ("shelf 0", "folder 0 a 3 clash 1 f 2, folder 1, file 2 0 -, folder 3"), ("fall 2", "sent 0"),
                  ("shelf 2", "folder 0 clash 1, folder 1"), ("shelf 3", "no event"))

    def test_held(self):
        self.runs(ONE, ("held", "-"), ("rise 0", "sent 0"), ("begin 0 0", "asked"), ("begin 1 0", "asked"),
                  ("rest 9", "rested 4"), ("ask 0 0 make /f -", "asked"), ("rest 9", "rested 2"),
                  ("ask 1 0 lock 2 read 3 7", "asked"), ("rest 9", "rested 2"), ("held", "2 3 7 read 1"),
                  ("ask 0 0 lock 2 write 0 2", "asked"), ("rest 9", "rested 2"), ("held", "2 0 2 write 0, 2 3 7 read 1"),
                  ("pass 80 80 80 80", "passed"), ("held", "-"))

    def test_way(self):
        self.runs(THREE, ("way", "0"), ("rise 0", "sent 2"), ("way", "2"), ("begin 1 0", "asked"), ("way", "3"))

    def test_logs(self):
        self.runs(THREE, ("logs", "0/0 0/0 0/0"), ("rise 0", "sent 2"), ("rest 99", "rested 8"), ("logs", "1/1 0/1 0/1"),
                  ("time 0", "sent 2"), ("logs", "1/2 0/1 0/1"), ("carry 1", "heard"), ("logs", "1/2 0/1 1/2"),
                  ("fall 2", "sent 0"), ("logs", "1/2 0/1 0/2"))
        self.runs(ONE, ("rise 0", "sent 0"), ("logs", "1/1"))

    def test_story(self):
        self.runs(THREE, ("story", "-"))

    def test_story_with_a_fault(self):
        # The hand holds far longer than the master keeps, so it sees what another has shut over.
        first = "world 1 2 10 1000 1 1 1 1"
        self.runs(first, ("rise 0", "sent 0"), ("begin 0 0", "asked"), ("rest 9", "rested 2"), ("ask 0 0 make /f one", "asked"),
                  ("rest 9", "rested 2"), ("ask 0 0 see 2", "asked"), ("rest 9", "rested 2"), ("pass 10 10 10 10", "passed"),
                  ("begin 1 0", "asked"), ("rest 9", "rested 2"), ("ask 1 0 shut 2 0 two", "asked"), ("rest 9", "rested 2"),
                  ("story", "-"), ("see 1 2", "seen 1 two"), ("see 0 2", "seen 0 one"), ("story", "9 11"))

    def test_rows_without_words_are_not_answered(self):
        self.assertEqual(run("\n" + ONE + "\n\nway\n   \n  logs \n"), ["0", "0/0"])


if __name__ == "__main__":
    unittest.main()

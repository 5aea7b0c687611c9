import unittest

from farshelf.errors import NoRow, ShelfError
from farshelf.sheet import read_sheet

WORLD = "world 3 2 100 80 9 10 11 10"
WORLD_ROW = ("world", 3, 2, 100, 80, 9, 10, 11, 10)
LONG = "a" * 200

# Each row and what it is read as.
ROWS = (
    ("pass 5 5", ("pass", 5, [5])), ("pass 0 0 0 0", ("pass", 0, [0, 0, 0])), ("pass 1 2 3 4", ("pass", 1, [2, 3, 4])),
    ("rise 0", ("rise", 0)), ("send 1", ("send", 1)), ("time 2", ("time", 2)), ("fall 3", ("fall", 3)),
    ("wake 999999999999", ("wake", 999999999999)), ("begin 1 2", ("begin", 1, 2)), ("again 3 4", ("again", 3, 4)),
    ("join 5 6", ("join", 5, 6)), ("carry 0", ("carry", 0)), ("copy 10", ("copy", 10)), ("lose 7", ("lose", 7)),
    ("rest 0", ("rest", 0)), ("rest 100", ("rest", 100)), ("see 1 2", ("see", 1, 2)),
    ("shelf 0", ("shelf", 0)), ("held", ("held",)), ("way", ("way",)), ("story", ("story",)), ("logs", ("logs",)),
    ("ask 1 2 look", ("ask", 1, 2, ("look",))),
    ("ask 1 2 make /a x.y", ("ask", 1, 2, ("make", "/a", "x.y"))),
    ("ask 1 2 make /a -", ("ask", 1, 2, ("make", "/a", ""))),
    ("ask 1 2 make / 0", ("ask", 1, 2, ("make", "/", "0"))),
    ("ask 1 2 make /a " + LONG, ("ask", 1, 2, ("make", "/a", LONG))),
    ("ask 1 2 fold /a/b", ("ask", 1, 2, ("fold", "/a/b"))),
    ("ask 1 2 fold //A.%\t~", ("ask", 1, 2, ("fold", "//A.%\t~"))),
    ("ask 1 2 link /a 5", ("ask", 1, 2, ("link", "/a", 5))), ("ask 1 2 drop /a", ("ask", 1, 2, ("drop", "/a"))),
    ("ask 1 2 move /a /b", ("ask", 1, 2, ("move", "/a", "/b"))), ("ask 1 2 open /", ("ask", 1, 2, ("open", "/"))),
    ("ask 1 2 see 5", ("ask", 1, 2, ("see", 5))), ("ask 1 2 shut 5 6 x", ("ask", 1, 2, ("shut", 5, 6, "x"))),
    ("ask 1 2 shut 5 6 -", ("ask", 1, 2, ("shut", 5, 6, ""))),
    ("ask 1 2 lock 5 read 0 1", ("ask", 1, 2, ("lock", 5, "read", 0, 1))),
    ("ask 1 2 lock 5 write 7 999999999999", ("ask", 1, 2, ("lock", 5, "write", 7, 999999999999))),
    ("ask 1 2 free 5 9 10", ("ask", 1, 2, ("free", 5, 9, 10))),
    ("work 1 shut 5 6 x", ("work", 1, ("shut", 5, 6, "x"))), ("work 1 shut 5 6 -", ("work", 1, ("shut", 5, 6, ""))),
    ("work 1 make 0 n x", ("work", 1, ("make", 0, "n", "x"))), ("work 1 make 0 12345678 -", ("work", 1, ("make", 0, "12345678", ""))),
)

BAD_NUMBERS = ("01", "00", "-1", "+1", "1.0", "1_0", "x", "1234567890123", "0x1", "-", "/", "\u0661", "\u00b2", "1\t", "1\r",
               "\uff11", "000000000000")
BAD_CONTENTS = ("A", "a-b", "--", "a" * 201, "a/b", "a_b", "\u00e4", "a\t", "/")
BAD_NAMES = ("A", "abcdefghi", "a.b", "-", "/a", "a/b", "\u0661")
BAD_PATHS = ("a", "-", "a/b", "\t/a", "\\a")


class SheetCase(unittest.TestCase):
    def reads(self, text, *rows):
        with self.subTest(text=text):
            told = read_sheet(text)
            self.assertEqual(told, list(rows))
            self.assertIsInstance(told, list)
            for row in told:
                self.assertIsInstance(row, tuple)

    def refuses(self, text, number):
        with self.subTest(text=text):
            with self.assertRaises(NoRow) as taken:
                read_sheet(text)
            self.assertIsInstance(taken.exception, ShelfError)
            self.assertEqual(taken.exception.row, number)

    def refuses_row(self, row):
        self.refuses(WORLD + "\n" + row, 1)
        self.refuses("\n" + WORLD + "\nrise 0\n  \n" + row + "\nway\nnone", 4)


class Read(SheetCase):
    def test_each_row(self):
        self.reads(WORLD, WORLD_ROW)
        for text, row in ROWS:
            self.reads(WORLD + "\n" + text, WORLD_ROW, row)

    def test_all_together(self):
        self.reads("\n".join([WORLD] + [text for text, row in ROWS]), WORLD_ROW, *[row for text, row in ROWS])

    def test_kinds(self):
        self.assertIsInstance(read_sheet(WORLD + "\npass 1 1 1")[1][2], list)
        self.assertIsInstance(read_sheet(WORLD + "\nask 0 0 look")[1][3], tuple)

    def test_told_is_the_askers_own(self):
        text = WORLD + "\npass 1 1 1"
        read_sheet(text)[1][2].append(4)
        read_sheet(text).clear()
        self.reads(text, WORLD_ROW, ("pass", 1, [1, 1]))

    def test_blanks(self):
        self.reads("  world   3 2  100 80 9 10 11 10   \n   rise    0  ", WORLD_ROW, ("rise", 0))

    def test_rows_without_words(self):
        self.reads("\n\n   \n" + WORLD + "\n\n  \nway\n\n", WORLD_ROW, ("way",))

    def test_many_rows(self):
        self.reads("\n".join([WORLD] + ["way"] * 399), WORLD_ROW, *[("way",)] * 399)
        self.reads("\n".join([WORLD] + ["way"] * 600), WORLD_ROW, *[("way",)] * 600)
        self.reads(WORLD + "\n" + " " * 400 + "way", WORLD_ROW, ("way",))


class World(SheetCase):
    def test_the_ends(self):
        for text, row in (("world 1 1 1 1 1 1 1 1", ("world", 1, 1, 1, 1, 1, 1, 1, 1)),
                          ("world 7 10 999999999999 999999999999 1 999999999999 999999999999 1",
                           ("world", 7, 10, 999999999999, 999999999999, 1, 999999999999, 999999999999, 1)),
                          ("world 1 1 1 1 5 5 7 7", ("world", 1, 1, 1, 1, 5, 5, 7, 7))):
            self.reads(text, row)

    def test_beyond_them(self):
        for text in ("world 0 2 100 80 9 10 11 10", "world 8 2 100 80 9 10 11 10", "world 3 0 100 80 9 10 11 10",
                     "world 3 11 100 80 9 10 11 10", "world 3 2 0 80 9 10 11 10", "world 3 2 100 0 9 10 11 10"):
            self.refuses(text, 0)
            self.refuses("\n" + text, 1)

    def test_bounds_that_are_none(self):
        for bounds in ("0 10 11 10", "0 0 11 10", "11 10 11 10", "9 10 11 12", "9 10 11 0", "9 10 0 0", "9 10 0 1"):
            self.refuses("world 3 2 100 80 " + bounds, 0)

    def test_words(self):
        words = WORLD.split(" ")
        self.refuses(" ".join(words[:-1]), 0)
        self.refuses(WORLD + " 1", 0)
        for place in range(1, len(words)):
            for number in BAD_NUMBERS:
                self.refuses(" ".join(words[:place] + [number] + words[place + 1:]), 0)

    def test_the_first_row_is_one(self):
        for text in ("way", "rise 0", "none", "World" + WORLD[5:]):
            self.refuses(text, 0)
            self.refuses("\n\n" + text + "\n" + WORLD, 2)

    def test_a_second_one(self):
        self.refuses(WORLD + "\n" + WORLD, 1)
        self.refuses(WORLD + "\nway\n\n" + WORLD + "\nnone", 3)

    def test_no_row_at_all(self):
        for text in ("", " ", "\n", "\n\n   \n"):
            self.refuses(text, 0)


class NotSo(SheetCase):
    def test_other_words(self):
        for row in ("none", "Rise 0", "RISE 0", "rise0", "ris 0", "lead 0", "look", "-", "0", "#", "/", "join", "world",
                    "make 0 n x", "shut 5 6 x", "none 0 0", "see", "ask", "work", "pass"):
            self.refuses_row(row)

    def test_a_word_less_or_more(self):
        for text, row in ROWS:
            words = text.split(" ")
            if row[0] == "pass":
                continue
            self.refuses_row(text + " 1")
            self.refuses_row(text + " x")
            for many in range(1, len(words)):
                self.refuses_row(" ".join(words[:many]))

    def test_pass(self):
        self.refuses_row("pass")
        self.refuses_row("pass 1")
        for number in BAD_NUMBERS:
            self.refuses_row(f"pass {number} 1 1")
            self.refuses_row(f"pass 1 {number} 1")
            self.refuses_row(f"pass 1 1 {number}")

    def numbers_in(self, form):
        words = form.split(" ")
        for place, word in enumerate(words):
            if word == "7":
                for number in BAD_NUMBERS:
                    self.refuses_row(" ".join(words[:place] + [number] + words[place + 1:]))

    def test_numbers(self):
        for form in ("rise 7", "send 7", "time 7", "fall 7", "wake 7", "begin 7 7", "again 7 7", "join 7 7", "carry 7",
                     "copy 7", "lose 7", "rest 7", "see 7 7", "shelf 7", "ask 7 7 look", "ask 7 7 link /a 7",
                     "ask 7 7 see 7", "ask 7 7 shut 7 7 x", "ask 7 7 lock 7 read 7 9", "ask 7 7 lock 7 read 6 7",
                     "ask 7 7 free 7 7 9", "ask 7 7 free 7 6 7", "work 7 shut 7 7 x", "work 7 make 7 n x"):
            self.numbers_in(form)

    def test_contents(self):
        for content in BAD_CONTENTS:
            for row in (f"ask 0 0 make /a {content}", f"ask 0 0 shut 5 6 {content}", f"work 0 shut 5 6 {content}",
                        f"work 0 make 0 n {content}"):
                self.refuses_row(row)

    def test_names(self):
        for name in BAD_NAMES:
            self.refuses_row(f"work 0 make 0 {name} x")

    def test_paths(self):
        for path in BAD_PATHS:
            for row in (f"ask 0 0 make {path} x", f"ask 0 0 fold {path}", f"ask 0 0 link {path} 5", f"ask 0 0 drop {path}",
                        f"ask 0 0 move {path} /b", f"ask 0 0 move /b {path}", f"ask 0 0 open {path}"):
                self.refuses_row(row)

    def test_sorts(self):
        for sort in ("Read", "reads", "r", "-", "0", "readwrite"):
            self.refuses_row(f"ask 0 0 lock 5 {sort} 0 1")

    def test_low_not_less_than_high(self):
        for low, high in ((0, 0), (1, 0), (5, 5), (10, 9)):
            self.refuses_row(f"ask 0 0 lock 5 read {low} {high}")
            self.refuses_row(f"ask 0 0 free 5 {low} {high}")

    def test_requests_and_deeds_are_apart(self):
        for row in ("ask 0 0 begin", "ask 0 0 join", "ask 0 0 none", "ask 0 0 make 0 n x", "work 0 look", "work 0 make /a x",
                    "work 0 put 5 6 x", "work 0 see 5", "ask 0 look", "work look"):
            self.refuses_row(row)

    def test_tabs_and_their_like_are_no_blanks(self):
        for row in ("\t", "\trise 0", "rise\t0", "rise 0\t", "rise 0 \t", "\r", "way\r", "\u00a0way", "way\x0b", "way\x0c",
                    "way\u2028"):
            self.refuses_row(row)
        self.refuses("\t", 0)
        self.refuses("\t\n" + WORLD, 0)
        self.refuses(WORLD.replace(" ", "\t"), 0)

    def test_only_line_feeds_part_rows(self):
        for sign in ("\r", "\x0b", "\x0c", "\x1c", "\x85", "\u2028"):
            self.refuses(WORLD + sign + "way", 0)

    def test_the_first_that_is_not_so(self):
        self.refuses("\n".join([WORLD, "", "way", "  ", "no", "no", WORLD]), 4)


if __name__ == "__main__":
    unittest.main()

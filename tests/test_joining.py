import copy
import unittest

from farshelf.clash import clash_name
from farshelf.joining import files_shut, joined
from farshelf.shelf import Shelf, done, node_at, paths_of, rows_of

LETTERS = "abcdefghijklmnopqrstuvwxyz"


class JoiningCase(unittest.TestCase):
    # 2 a folder /a, 3 a file /a/f of version 2, 4 a file /g of version 0.
    def setUp(self):
        self.shelf = Shelf()
        for deed in (("fold", 0, "a"), ("make", 2, "f", "one"), ("make", 0, "g", "g"), ("put", 3, 0, "two"),
                     ("put", 3, 1, "three")):
            self.assertNotEqual(done(self.shelf, deed)[0], "refused")

    def tells(self, deeds, parts):
        answer = joined(self.shelf, deeds)
        self.assertEqual(answer, ("joined", parts))
        self.assertIsInstance(answer, tuple)
        self.assertIsInstance(answer[1], list)
        for part in answer[1]:
            self.assertIsInstance(part, tuple)

    def file(self, number):
        return [row for row in rows_of(self.shelf) if row[1] == number]

    def clashes(self):
        return rows_of(self.shelf)[1][2]


class Done(JoiningCase):
    def test_none(self):
        rows = rows_of(self.shelf)
        self.tells([], [])
        self.tells((), [])
        self.assertEqual(rows_of(self.shelf), rows)

    def test_shut_is_done_as_put(self):
        self.tells([("shut", 3, 2, "four")], [("put", 3)])
        self.assertEqual(self.file(3), [("file", 3, 3, "four")])
        self.assertEqual(self.clashes(), [])

    def test_several_of_one_file(self):
        self.tells([("shut", 3, 2, "four"), ("shut", 4, 0, "h"), ("shut", 3, 3, "five")],
                   [("put", 3), ("put", 1), ("put", 4)])
        self.assertEqual(self.file(3) + self.file(4), [("file", 3, 4, "five"), ("file", 4, 1, "h")])

    def test_make(self):
        self.tells([("make", 2, "n", "x"), ("make", 0, "n", "")], [("made", 5), ("made", 6)])
        self.assertEqual(self.file(5) + self.file(6), [("file", 5, 0, "x"), ("file", 6, 0, "")])
        self.assertEqual(paths_of(self.shelf, 5) + paths_of(self.shelf, 6), ["/a/n", "/n"])

    def test_in_order(self):
        self.tells([("make", 0, "n", "x"), ("shut", 5, 0, "y"), ("make", 0, "n", "z"), ("shut", 5, 1, "w")],
                   [("made", 5), ("put", 1), ("clash", 6, "there"), ("put", 2)])
        self.assertEqual(self.file(5) + self.file(6), [("file", 5, 2, "w"), ("file", 6, 0, "z")])


class FilesShut(unittest.TestCase):
    def test_of_the_shuts_alone(self):
        self.assertEqual(files_shut(()), [])
        self.assertEqual(files_shut((("shut", 3, 2, "a"), ("make", 9, "n", "b"), ("shut", 4, 0, ""), ("shut", 3, 3, "c"))),
                         [3, 4, 3])


class Clashes(JoiningCase):
    def test_stale(self):
        self.tells([("shut", 3, 1, "mine")], [("clash", 5, "stale")])
        self.assertEqual(self.file(3) + self.file(5), [("file", 3, 2, "three"), ("file", 5, 0, "mine")])
        self.assertEqual(self.clashes(), [("c5", 5)])
        self.assertEqual(paths_of(self.shelf, 5), ["/clash/c5"])

    def test_each_word_of_a_shut(self):
        self.tells([("shut", 9, 0, "a"), ("shut", 2, 0, "b"), ("shut", 4, 1, "")],
                   [("clash", 5, "gone"), ("clash", 6, "kind"), ("clash", 7, "stale")])
        self.assertEqual([self.file(number)[0][2:] for number in (5, 6, 7)], [(0, "a"), (0, "b"), (0, "")])

    def test_each_word_of_a_make(self):
        self.tells([("make", 9, "A", "a"), ("make", 9, "n", "b"), ("make", 3, "n", "c"), ("make", 2, "f", "d"),
                    ("make", 0, "clash", ""), ("make", 0, "abcdefghi", "e")],
                   [("clash", 5, "name"), ("clash", 6, "gone"), ("clash", 7, "kind"), ("clash", 8, "there"),
                    ("clash", 9, "there"), ("clash", 10, "name")])
        self.assertEqual(self.clashes(), [("c10", 10), ("c5", 5), ("c6", 6), ("c7", 7), ("c8", 8), ("c9", 9)])
        self.assertEqual([self.file(number)[0][2:] for number in range(5, 11)],
                         [(0, "a"), (0, "b"), (0, "c"), (0, "d"), (0, ""), (0, "e")])
        self.assertEqual(node_at(self.shelf, "/a/f"), 3)

    def test_behind_a_refused_shut_all_of_that_file_are_stale(self):
        self.tells([("shut", 3, 1, "a"), ("shut", 3, 2, "b"), ("shut", 4, 0, "h"), ("shut", 3, 3, "c")],
                   [("clash", 5, "stale"), ("clash", 6, "stale"), ("put", 1), ("clash", 7, "stale")])
        self.assertEqual(self.file(3), [("file", 3, 2, "three")])
        self.assertEqual([self.file(number)[0][3] for number in (5, 6, 7)], ["a", "b", "c"])

    def test_stale_also_where_the_first_was_refused_with_another_word(self):
        self.tells([("shut", 9, 0, "a"), ("shut", 9, 0, "b"), ("shut", 2, 0, "c"), ("shut", 2, 0, "d")],
                   [("clash", 5, "gone"), ("clash", 6, "stale"), ("clash", 7, "kind"), ("clash", 8, "stale")])

    def test_behind_a_refused_shut_the_number_stays_barred(self):
        self.tells([("shut", 6, 0, "a"), ("make", 0, "n", "b"), ("shut", 6, 0, "c")],
                   [("clash", 5, "gone"), ("made", 6), ("clash", 7, "stale")])
        self.assertEqual(self.file(6), [("file", 6, 0, "b")])

    def test_a_shut_that_was_done_bars_nothing(self):
        self.tells([("shut", 3, 2, "a"), ("shut", 3, 2, "b"), ("shut", 3, 3, "c")],
                   [("put", 3), ("clash", 5, "stale"), ("clash", 6, "stale")])
        self.assertEqual(self.file(3), [("file", 3, 3, "a")])

    def test_a_refused_make_bars_no_shut(self):
        self.tells([("make", 3, "n", "a"), ("shut", 3, 2, "b"), ("make", 2, "f", "c"), ("shut", 3, 3, "d")],
                   [("clash", 5, "kind"), ("put", 3), ("clash", 6, "there"), ("put", 4)])

    def test_the_next_join_begins_anew(self):
        self.tells([("shut", 3, 0, "a")], [("clash", 5, "stale")])
        self.tells([("shut", 3, 2, "a")], [("put", 3)])

    def test_a_clash_may_be_shut_behind(self):
        self.tells([("make", 0, "g", "a"), ("shut", 5, 0, "b")], [("clash", 5, "there"), ("put", 1)])
        self.assertEqual(self.file(5), [("file", 5, 1, "b")])

    def test_numbers_go_on(self):
        self.assertEqual(done(self.shelf, ("drop", 0, "g")), ("ok",))
        self.tells([("shut", 4, 0, "a")], [("clash", 5, "gone")])
        self.assertEqual(done(self.shelf, ("drop", 1, "c5")), ("ok",))
        self.tells([("shut", 4, 0, "a")], [("clash", 6, "gone")])
        self.assertEqual(done(self.shelf, ("make", 0, "n", "")), ("made", 7))


class Names(JoiningCase):
    def test_there_already(self):
        self.assertEqual(done(self.shelf, ("make", 1, "c6", "x")), ("made", 5))
        self.tells([("make", 0, "g", "a")], [("clash", 6, "there")])
        self.assertEqual(self.clashes(), [("c6", 5), ("c6a", 6)])
        self.assertEqual(self.file(5) + self.file(6), [("file", 5, 0, "x"), ("file", 6, 0, "a")])

    def test_there_with_letters_behind(self):
        for name in ("c9", "c9a", "c9b", "c9d"):
            done(self.shelf, ("fold", 1, name))
        self.tells([("make", 0, "g", "a")], [("clash", 9, "there")])
        self.assertEqual(paths_of(self.shelf, 9), ["/clash/c9c"])

    def test_made_within_the_join(self):
        self.tells([("make", 1, "c6", "a"), ("make", 0, "g", "b"), ("make", 1, "c6a", "c")],
                   [("made", 5), ("clash", 6, "there"), ("clash", 7, "there")])
        self.assertEqual(self.clashes(), [("c6", 5), ("c6a", 6), ("c7", 7)])

    def test_names_of_folder_1_alone_count(self):
        done(self.shelf, ("make", 0, "c6", ""))
        self.tells([("make", 0, "g", "a")], [("clash", 6, "there")])
        self.assertEqual(self.clashes(), [("c6", 6)])

    def test_behind_z(self):
        for tail in [""] + list(LETTERS):
            self.assertEqual(done(self.shelf, ("link", 1, "c5" + tail, 3)), ("ok",))
        self.tells([("make", 0, "g", "a")], [("clash", 5, "there")])
        self.assertEqual(paths_of(self.shelf, 5), ["/clash/c5aa"])

    def test_all_tails_in_order(self):
        tails = [""] + list(LETTERS) + [first + second for first in LETTERS for second in LETTERS]
        entries = {}
        for tail in tails:
            self.assertEqual(clash_name(entries, 40), "c40" + tail)
            entries["c40" + tail] = 2
        entries.pop("c40q")
        self.assertEqual(clash_name(entries, 40), "c40q")
        entries.pop("c40")
        self.assertEqual(clash_name(entries, 40), "c40")
        self.assertEqual(clash_name(entries, 4), "c4")


class Owned(JoiningCase):
    def test_deeds_are_not_changed(self):
        for deeds in ([("shut", 3, 1, "a"), ("make", 0, "g", "b"), ("shut", 3, 2, "c"), ("make", 0, "n", "d")],
                      (("shut", 3, 1, "a"), ("make", 0, "m", "b"))):
            before = copy.deepcopy(deeds)
            joined(self.shelf, deeds)
            self.assertEqual(deeds, before)

    def test_told_is_the_askers_own(self):
        answer = joined(self.shelf, [("shut", 3, 1, "a"), ("shut", 3, 2, "b")])
        rows = rows_of(self.shelf)
        answer[1].clear()
        self.assertEqual(rows_of(self.shelf), rows)
        self.tells([("shut", 3, 1, "a")], [("clash", 7, "stale")])


if __name__ == "__main__":
    unittest.main()

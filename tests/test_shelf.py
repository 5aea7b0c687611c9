import random
import unittest

from farshelf.shelf import Shelf, done, like, node_at, paths_of, rows_of
from farshelf.words import is_content, is_name

NEW_ROWS = [("folder", 0, [("clash", 1)]), ("folder", 1, [])]
WORDS = ("name", "gone", "kind", "lacks", "there", "kept", "full", "beneath", "stale")
BAD_NAMES = ("", "abcdefghi", "A", "a b", "a/b", "a.b", "/")
BAD_CONTENTS = ("A", "a b", "a/b", "-", "a" * 201)


def shelf_after(deeds):
    shelf = Shelf()
    for deed in deeds:
        answer = done(shelf, deed)
        if answer[0] == "refused":
            raise AssertionError((deed, answer))
    return shelf


# 2 a folder /a, 3 a folder /a/b, 4 a file /a/f, also /g and /a/b/h, 5 a file /e, 6 an empty folder /z.
DEEDS = (("fold", 0, "a"), ("fold", 2, "b"), ("make", 2, "f", "one"), ("make", 0, "e", ""), ("fold", 0, "z"),
         ("link", 0, "g", 4), ("link", 3, "h", 4))
ROWS = [("folder", 0, [("a", 2), ("clash", 1), ("e", 5), ("g", 4), ("z", 6)]), ("folder", 1, []),
        ("folder", 2, [("b", 3), ("f", 4)]), ("folder", 3, [("h", 4)]), ("file", 4, 0, "one"), ("file", 5, 0, ""),
        ("folder", 6, [])]


class ShelfCase(unittest.TestCase):
    def setUp(self):
        self.shelf = shelf_after(DEEDS)

    def tells(self, deed, answer):
        with self.subTest(deed=deed):
            told = done(self.shelf, deed)
            self.assertEqual(told, answer)
            self.assertIsInstance(told, tuple)

    def next_number(self):
        return done(like(self.shelf), ("make", 1, "trial", ""))

    def refuses(self, deed, word):
        rows = rows_of(self.shelf)
        number = self.next_number()
        self.tells(deed, ("refused", word))
        self.assertEqual(rows_of(self.shelf), rows)
        self.assertEqual(self.next_number(), number)


class Rows(ShelfCase):
    def test_new(self):
        self.assertEqual(rows_of(Shelf()), NEW_ROWS)

    def test_kinds(self):
        rows = rows_of(self.shelf)
        self.assertIsInstance(rows, list)
        for row in rows:
            self.assertIsInstance(row, tuple)
        self.assertIsInstance(rows[0][2], list)
        for entry in rows[0][2]:
            self.assertIsInstance(entry, tuple)

    def test_rising(self):
        self.assertEqual(rows_of(self.shelf), ROWS)
        shelf = shelf_after([("fold", 0, name) for name in ("z", "b", "a9", "a", "10", "9")])
        self.assertEqual(rows_of(shelf)[0][2],
                         [("10", 6), ("9", 7), ("a", 5), ("a9", 4), ("b", 3), ("clash", 1), ("z", 2)])

    def test_told_is_the_askers_own(self):
        rows = rows_of(self.shelf)
        rows[0][2].clear()
        rows.pop()
        self.assertEqual(rows_of(self.shelf), ROWS)
        paths = paths_of(self.shelf, 4)
        paths.append("/x")
        self.assertEqual(paths_of(self.shelf, 4), ["/a/b/h", "/a/f", "/g"])

    def test_two_new_ones_share_nothing(self):
        done(Shelf(), ("fold", 1, "a"))
        self.assertEqual(rows_of(Shelf()), NEW_ROWS)

    def test_asked_again(self):
        for times in range(3):
            self.assertEqual(rows_of(self.shelf), ROWS)
            self.assertEqual(node_at(self.shelf, "/a/b/h"), 4)


class Paths(ShelfCase):
    def test_new(self):
        shelf = Shelf()
        self.assertEqual(node_at(shelf, "/"), 0)
        self.assertEqual(node_at(shelf, "/clash"), 1)
        self.assertEqual(paths_of(shelf, 0), ["/"])
        self.assertEqual(paths_of(shelf, 1), ["/clash"])
        self.assertEqual(paths_of(shelf, 2), [])

    def test_node_at(self):
        for path, number in (("/", 0), ("/clash", 1), ("/a", 2), ("/a/b", 3), ("/a/f", 4), ("/g", 4), ("/a/b/h", 4),
                             ("/e", 5), ("/z", 6)):
            with self.subTest(path=path):
                self.assertEqual(node_at(self.shelf, path), number)

    def test_leads_to_none(self):
        for path in ("/b", "/a/g", "/z/a", "/clash/a", "/b/h", "/g/h", "/a/f/f", "/e/e/e", "/none/a/b"):
            with self.subTest(path=path):
                self.assertIsNone(node_at(self.shelf, path))

    def test_no_path(self):
        for path in ("", "a", "xa", "xa/b", "a/b", "//", "//a", "/a/", "/a//b", "/A", "/a.b", "/abcdefghi", "/ a",
                     "/a\n", "/."):
            with self.subTest(path=path):
                self.assertIsNone(node_at(self.shelf, path))

    def test_paths_of(self):
        for number, paths in ((0, ["/"]), (1, ["/clash"]), (2, ["/a"]), (3, ["/a/b"]), (4, ["/a/b/h", "/a/f", "/g"]),
                              (5, ["/e"]), (6, ["/z"]), (7, []), (-1, []), (10 ** 12, [])):
            with self.subTest(number=number):
                self.assertEqual(paths_of(self.shelf, number), paths)

    def test_paths_rise_as_texts(self):
        shelf = shelf_after([("make", 0, "b", ""), ("link", 0, "a1", 2), ("fold", 0, "a"), ("link", 3, "z", 2),
                             ("link", 0, "10", 2), ("link", 0, "9", 2)])
        self.assertEqual(paths_of(shelf, 2), ["/10", "/9", "/a/z", "/a1", "/b"])

    def test_two_names_in_one_folder(self):
        self.tells(("link", 0, "k", 4), ("ok",))
        self.assertEqual(paths_of(self.shelf, 4), ["/a/b/h", "/a/f", "/g", "/k"])

    def test_deep(self):
        shelf = shelf_after([("fold", 0, "d")] + [("fold", number, "d") for number in range(2, 599)])
        self.assertEqual(node_at(shelf, "/d" * 598), 599)
        self.assertEqual(paths_of(shelf, 599), ["/d" * 598])
        self.assertEqual(done(shelf, ("move", 0, "d", 599, "x")), ("refused", "beneath"))
        self.assertEqual(done(shelf, ("move", 0, "d", 1, "x")), ("ok",))
        self.assertEqual(paths_of(shelf, 599), ["/clash/x" + "/d" * 597])


class Done(ShelfCase):
    def test_make(self):
        self.tells(("make", 0, "n", "a.b"), ("made", 7))
        self.tells(("make", 3, "n", ""), ("made", 8))
        self.tells(("make", 1, "abcdefgh", "x" * 200), ("made", 9))
        self.assertEqual(rows_of(self.shelf)[7:],
                         [("file", 7, 0, "a.b"), ("file", 8, 0, ""), ("file", 9, 0, "x" * 200)])
        self.assertEqual([paths_of(self.shelf, number) for number in (7, 8, 9)],
                         [["/n"], ["/a/b/n"], ["/clash/abcdefgh"]])

    def test_fold(self):
        self.tells(("fold", 3, "n"), ("made", 7))
        self.tells(("fold", 7, "n"), ("made", 8))
        self.assertEqual(rows_of(self.shelf)[7:], [("folder", 7, [("n", 8)]), ("folder", 8, [])])
        self.assertEqual(paths_of(self.shelf, 8), ["/a/b/n/n"])

    def test_link(self):
        self.tells(("link", 6, "n", 5), ("ok",))
        self.assertEqual(paths_of(self.shelf, 5), ["/e", "/z/n"])
        self.assertEqual(rows_of(self.shelf)[6], ("folder", 6, [("n", 5)]))
        self.tells(("put", node_at(self.shelf, "/z/n"), 0, "new"), ("put", 1))
        self.assertEqual(rows_of(self.shelf)[5], ("file", 5, 1, "new"))

    def test_put(self):
        self.tells(("put", 4, 0, "two"), ("put", 1))
        self.tells(("put", 4, 1, ""), ("put", 2))
        self.tells(("put", 4, 2, ""), ("put", 3))
        self.refuses(("put", 4, 0, "two"), "stale")
        self.assertEqual(rows_of(self.shelf), ROWS[:4] + [("file", 4, 3, "")] + ROWS[5:])

    def test_drop_name_by_name_until_it_is_gone(self):
        self.tells(("put", 4, 0, "two"), ("put", 1))
        self.tells(("drop", 0, "g"), ("ok",))
        self.assertEqual(paths_of(self.shelf, 4), ["/a/b/h", "/a/f"])
        self.tells(("drop", 2, "f"), ("ok",))
        self.assertEqual(paths_of(self.shelf, 4), ["/a/b/h"])
        self.assertIn(("file", 4, 1, "two"), rows_of(self.shelf))
        self.tells(("drop", 3, "h"), ("ok",))
        self.assertEqual(paths_of(self.shelf, 4), [])
        self.assertEqual([row[1] for row in rows_of(self.shelf)], [0, 1, 2, 3, 5, 6])
        self.refuses(("put", 4, 1, "x"), "gone")
        self.refuses(("link", 0, "g", 4), "gone")
        self.refuses(("drop", 3, "h"), "lacks")

    def test_drop_of_a_folder(self):
        self.tells(("drop", 0, "z"), ("ok",))
        self.assertEqual(rows_of(self.shelf), [("folder", 0, ROWS[0][2][:4])] + ROWS[1:6])
        self.assertIsNone(node_at(self.shelf, "/z"))
        self.refuses(("make", 6, "n", ""), "gone")
        self.refuses(("move", 0, "a", 6, "n"), "gone")

    def test_a_folder_that_was_emptied(self):
        self.refuses(("drop", 2, "b"), "full")
        self.tells(("drop", 3, "h"), ("ok",))
        self.tells(("drop", 2, "b"), ("ok",))
        self.assertEqual(rows_of(self.shelf)[2], ("folder", 2, [("f", 4)]))

    def test_a_number_is_never_given_twice(self):
        self.tells(("drop", 0, "z"), ("ok",))
        self.tells(("fold", 0, "z"), ("made", 7))
        self.tells(("drop", 0, "z"), ("ok",))
        self.tells(("drop", 0, "e"), ("ok",))
        self.tells(("make", 0, "e", ""), ("made", 8))
        self.tells(("drop", 0, "e"), ("ok",))
        self.tells(("make", 0, "e", ""), ("made", 9))

    def test_a_refused_deed_gives_no_number_away(self):
        for deed in (("make", 0, "a", ""), ("fold", 0, "a"), ("make", 9, "a", ""), ("fold", 4, "a"),
                     ("make", 0, "A", ""), ("make", 0, "n", "A")):
            self.assertEqual(done(self.shelf, deed)[0], "refused")
        self.tells(("make", 0, "n", ""), ("made", 7))

    def test_the_deed_is_not_changed(self):
        deed = ("make", 0, "n", "x")
        done(self.shelf, deed)
        self.assertEqual(deed, ("make", 0, "n", "x"))


class Moves(ShelfCase):
    def test_a_file(self):
        self.tells(("move", 0, "g", 6, "k"), ("ok",))
        self.assertEqual(paths_of(self.shelf, 4), ["/a/b/h", "/a/f", "/z/k"])
        self.tells(("move", 6, "k", 6, "l"), ("ok",))
        self.assertEqual(paths_of(self.shelf, 4), ["/a/b/h", "/a/f", "/z/l"])
        self.tells(("move", 2, "f", 3, "f"), ("ok",))
        self.assertEqual(paths_of(self.shelf, 4), ["/a/b/f", "/a/b/h", "/z/l"])

    def test_a_folder_with_all_that_is_in_it(self):
        self.tells(("move", 0, "a", 6, "y"), ("ok",))
        self.assertEqual(paths_of(self.shelf, 2), ["/z/y"])
        self.assertEqual(paths_of(self.shelf, 3), ["/z/y/b"])
        self.assertEqual(paths_of(self.shelf, 4), ["/g", "/z/y/b/h", "/z/y/f"])
        self.assertEqual(node_at(self.shelf, "/z/y/b/h"), 4)
        self.assertIsNone(node_at(self.shelf, "/a"))
        self.assertEqual(rows_of(self.shelf), [
            ("folder", 0, [("clash", 1), ("e", 5), ("g", 4), ("z", 6)]), ("folder", 1, [])] + ROWS[2:6]
            + [("folder", 6, [("y", 2)])])

    def test_a_folder_to_another_name(self):
        self.tells(("move", 0, "a", 0, "b"), ("ok",))
        self.assertEqual(paths_of(self.shelf, 3), ["/b/b"])
        self.tells(("move", 2, "b", 0, "a"), ("ok",))
        self.assertEqual(paths_of(self.shelf, 3), ["/a"])

    def test_into_itself_and_beneath_itself(self):
        self.refuses(("move", 0, "a", 2, "n"), "beneath")
        self.refuses(("move", 0, "a", 3, "n"), "beneath")
        self.refuses(("move", 2, "b", 3, "n"), "beneath")
        self.tells(("fold", 3, "d"), ("made", 7))
        self.refuses(("move", 0, "a", 7, "n"), "beneath")
        self.tells(("move", 3, "d", 2, "d"), ("ok",))
        self.tells(("move", 2, "b", 7, "b"), ("ok",))
        self.assertEqual(paths_of(self.shelf, 3), ["/a/d/b"])

    def test_beneath_a_folder_by_its_new_place(self):
        self.tells(("move", 0, "z", 3, "z"), ("ok",))
        self.refuses(("move", 0, "a", 6, "n"), "beneath")
        self.tells(("move", 3, "z", 0, "z"), ("ok",))
        self.tells(("move", 0, "a", 6, "n"), ("ok",))

    def test_a_file_into_its_own_folder_is_not_beneath(self):
        self.tells(("move", 2, "f", 2, "n"), ("ok",))
        self.tells(("move", 2, "n", 3, "n"), ("ok",))

    def test_onto_the_moved_entry_itself(self):
        self.refuses(("move", 0, "a", 0, "a"), "there")
        self.refuses(("move", 0, "g", 0, "g"), "there")
        self.refuses(("move", 0, "clash", 0, "clash"), "there")

    def test_onto_another_name_of_the_same_file(self):
        self.refuses(("move", 0, "g", 2, "f"), "there")

    def test_node_1(self):
        for deed in (("drop", 0, "clash"), ("move", 0, "clash", 0, "n"), ("move", 0, "clash", 2, "n"),
                     ("move", 0, "clash", 1, "n")):
            self.refuses(deed, "kept")
        self.tells(("make", 1, "n", ""), ("made", 7))
        self.refuses(("drop", 0, "clash"), "kept")
        self.assertEqual(paths_of(self.shelf, 1), ["/clash"])

    def test_another_one_by_the_name_clash(self):
        self.tells(("fold", 2, "clash"), ("made", 7))
        self.tells(("move", 2, "clash", 3, "clash"), ("ok",))
        self.tells(("drop", 3, "clash"), ("ok",))


class Refused(ShelfCase):
    def test_name(self):
        for bad in BAD_NAMES:
            for deed in (("make", 0, bad, ""), ("fold", 0, bad), ("link", 0, bad, 4), ("drop", 0, bad),
                         ("move", 0, bad, 6, "n"), ("move", 0, "a", 6, bad)):
                self.refuses(deed, "name")
        for bad in BAD_CONTENTS:
            self.refuses(("make", 0, "n", bad), "name")
            self.refuses(("put", 4, 0, bad), "name")

    def test_gone(self):
        for gone in (7, -1, 999999999999):
            for deed in (("make", gone, "n", ""), ("fold", gone, "n"), ("link", gone, "n", 4), ("link", 0, "n", gone),
                         ("drop", gone, "a"), ("move", gone, "a", 0, "n"), ("move", 0, "a", gone, "n"),
                         ("put", gone, 0, "")):
                self.refuses(deed, "gone")

    def test_kind(self):
        for deed in (("make", 4, "n", ""), ("fold", 4, "n"), ("link", 4, "n", 5), ("link", 0, "n", 2),
                     ("link", 0, "n", 0), ("drop", 4, "a"), ("move", 4, "a", 0, "n"), ("move", 0, "a", 4, "n"),
                     ("put", 2, 0, ""), ("put", 0, 0, ""), ("put", 1, 0, "")):
            self.refuses(deed, "kind")

    def test_lacks(self):
        for deed in (("drop", 0, "n"), ("drop", 6, "a"), ("move", 0, "n", 6, "n"), ("move", 6, "a", 0, "n")):
            self.refuses(deed, "lacks")

    def test_there(self):
        for deed in (("make", 0, "a", ""), ("make", 0, "e", ""), ("make", 0, "clash", ""), ("fold", 0, "a"),
                     ("fold", 0, "g"), ("link", 0, "g", 4), ("link", 0, "a", 4), ("move", 0, "e", 0, "a"),
                     ("move", 2, "f", 0, "z")):
            self.refuses(deed, "there")

    def test_full(self):
        self.refuses(("drop", 0, "a"), "full")
        self.refuses(("drop", 2, "b"), "full")

    def test_stale(self):
        for version in (1, -1, 999999999999):
            self.refuses(("put", 4, version, "x"), "stale")

    def test_the_first_where_several_are_due(self):
        for deed, word in (
            (("make", 9, "A", ""), "name"), (("make", 4, "n", "A"), "name"), (("fold", 9, ""), "name"),
            (("link", 9, "A", 9), "name"), (("drop", 9, "A"), "name"), (("move", 9, "a", 9, "B"), "name"),
            (("move", 9, "A", 4, "b"), "name"), (("put", 9, 0, "A"), "name"), (("put", 2, 7, "A"), "name"),
            (("link", 4, "n", 9), "gone"), (("link", 9, "n", 2), "gone"), (("link", 0, "a", 9), "gone"),
            (("move", 4, "n", 9, "n"), "gone"), (("move", 9, "n", 4, "n"), "gone"), (("move", 0, "n", 9, "a"), "gone"),
            (("link", 0, "a", 2), "kind"), (("move", 0, "n", 4, "a"), "kind"), (("move", 4, "n", 0, "a"), "kind"),
            (("move", 0, "n", 0, "a"), "lacks"), (("move", 0, "n", 0, "n"), "lacks"),
            (("move", 0, "clash", 0, "a"), "there"), (("move", 0, "a", 2, "b"), "there"),
            (("move", 0, "a", 3, "h"), "there"),
            (("move", 0, "clash", 1, "n"), "kept"),
        ):
            self.refuses(deed, word)
        self.tells(("fold", 1, "n"), ("made", 7))
        self.refuses(("drop", 0, "clash"), "kept")
        self.refuses(("move", 0, "clash", 7, "n"), "kept")


class Like(ShelfCase):
    def test_the_same_in_all(self):
        other = like(self.shelf)
        self.assertIsInstance(other, Shelf)
        self.assertEqual(rows_of(other), ROWS)
        self.assertEqual(done(other, ("make", 0, "n", "")), ("made", 7))

    def test_goes_its_own_way(self):
        other = like(self.shelf)
        for deed in (("make", 2, "n", ""), ("put", 4, 0, "two"), ("drop", 0, "z"), ("move", 0, "a", 1, "a")):
            self.assertNotEqual(done(other, deed)[0], "refused")
        self.assertEqual(rows_of(self.shelf), ROWS)
        third = like(self.shelf)
        self.tells(("drop", 2, "f"), ("ok",))
        self.tells(("put", 5, 0, "x"), ("put", 1))
        self.tells(("fold", 6, "n"), ("made", 7))
        self.assertEqual(rows_of(third), ROWS)
        self.assertEqual(done(third, ("fold", 6, "n")), ("made", 7))

    def test_numbers_that_are_gone_stay_given(self):
        self.tells(("drop", 0, "z"), ("ok",))
        self.assertEqual(done(like(self.shelf), ("fold", 0, "z")), ("made", 7))


class Model:
    """A shelf by its entries alone, each word of a refusal asked for by itself."""

    def __init__(self):
        self.entries = {(0, "clash"): 1}
        self.folders = {0, 1}
        self.files = {}
        self.greatest = 1

    def under(self, node):
        found = {node}
        while True:
            more = {n for (w, a), n in self.entries.items() if w in found and n in self.folders} | found
            if more == found:
                return found
            found = more

    def due(self, deed):
        kind = deed[0]
        nodes = self.folders | set(self.files)
        w, n = (None, deed[1]) if kind == "put" else (deed[1], deed[3] if kind == "link" else None)
        u = deed[3] if kind == "move" else None
        names = [] if kind == "put" else [deed[2]] + ([deed[4]] if kind == "move" else [])
        content = deed[3] if kind in ("make", "put") else ""
        node = self.entries.get((w, deed[2])) if kind in ("drop", "move") else None
        given = {"make": (w, deed[2]), "fold": (w, deed[2]), "link": (w, deed[2]), "move": deed[3:]}.get(kind)
        return {
            "name": not all(map(is_name, names)) or not is_content(content),
            "gone": any(x is not None and x not in nodes for x in (w, u, n)),
            "kind": any(x is not None and x not in self.folders for x in (w, u))
            or n is not None and n not in self.files,
            "lacks": kind in ("drop", "move") and node is None,
            "there": given in self.entries,
            "kept": node == 1,
            "full": kind == "drop" and node in self.folders and any(x == node for x, a in self.entries),
            "beneath": kind == "move" and node in self.folders and u in self.under(node),
            "stale": kind == "put" and self.files.get(n, [None])[0] != deed[2],
        }

    def do(self, deed):
        due = self.due(deed)
        for word in WORDS:
            if due[word]:
                return ("refused", word)
        kind, w = deed[0], deed[1]
        if kind == "put":
            self.files[w] = [deed[2] + 1, deed[3]]
            return ("put", deed[2] + 1)
        if kind in ("make", "fold"):
            self.greatest += 1
            self.entries[(w, deed[2])] = self.greatest
            if kind == "make":
                self.files[self.greatest] = [0, deed[3]]
            else:
                self.folders.add(self.greatest)
            return ("made", self.greatest)
        if kind == "link":
            self.entries[(w, deed[2])] = deed[3]
            return ("ok",)
        node = self.entries.pop((w, deed[2]))
        if kind == "move":
            self.entries[deed[3:]] = node
        elif node not in self.entries.values():
            self.folders.discard(node)
            self.files.pop(node, None)
        return ("ok",)

    def rows(self):
        rows = [("folder", n, sorted((a, x) for (w, a), x in self.entries.items() if w == n)) for n in self.folders]
        rows += [("file", n, version, content) for n, (version, content) in self.files.items()]
        return sorted(rows, key=lambda row: row[1])

    def paths(self, number):
        if number == 0:
            return ["/"]
        return sorted((path if path != "/" else "") + "/" + a for (w, a), n in self.entries.items() if n == number
                      for path in self.paths(w))


def some_deed(chance, model):
    def node():
        return chance.randrange(-1, model.greatest + 2)

    def folder():
        return chance.choice(sorted(model.folders)) if chance.random() < 0.9 else node()

    def file():
        return chance.choice(sorted(model.files)) if model.files and chance.random() < 0.9 else node()

    def name():
        return chance.choice(("a", "b", "c", "clash") + (("A",) if chance.random() < 0.1 else ()))

    def content():
        return chance.choice(("", "x", "y.z") + (("-",) if chance.random() < 0.1 else ()))

    kind = chance.choice(("make", "fold", "link", "drop", "move", "move", "put"))
    number = file()
    version = model.files.get(number, [0])[0] + chance.choice((0, 0, 0, 1, -1))
    return {"make": ("make", folder(), name(), content()), "fold": ("fold", folder(), name()),
            "link": ("link", folder(), name(), number), "drop": ("drop", folder(), name()),
            "move": ("move", folder(), name(), folder(), name()), "put": ("put", number, version, content())}[kind]


class AgainstModel(unittest.TestCase):
    def test_many_deeds(self):
        told = {}
        for seed in range(40):
            chance = random.Random(seed)
            model = Model()
            shelf = Shelf()
            for step in range(150):
                deed = some_deed(chance, model)
                answer = model.do(deed)
                self.assertEqual(done(shelf, deed), answer, (seed, step, deed))
                self.assertEqual(rows_of(shelf), model.rows(), (seed, step, deed))
                told[answer[-1] if answer[0] == "refused" else deed[0]] = True
            for number in range(-1, model.greatest + 2):
                self.assertEqual(paths_of(shelf, number), model.paths(number))
                for path in model.paths(number):
                    self.assertEqual(node_at(shelf, path), number)
        self.assertLessEqual(set(WORDS) | {"make", "fold", "link", "drop", "move", "put"}, set(told))


if __name__ == "__main__":
    unittest.main()

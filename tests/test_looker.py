import copy
import random
import unittest

from farshelf.errors import NoOrder, ShelfError
from farshelf.looker import is_fault, looked, shelf_of
from farshelf.shelf import Shelf, done, like, node_at, paths_of, rows_of

NEW = [("folder", 0, [("clash", 1)]), ("folder", 1, [])]

# 2 a folder /a, 3 a folder /a/b, 4 a file /a/f, also /g, 7 a file /clash/n.
GOOD = [("folder", 0, [("a", 2), ("clash", 1), ("g", 4)]), ("folder", 1, [("n", 7)]),
        ("folder", 2, [("b", 3), ("f", 4)]), ("folder", 3, []), ("file", 4, 5, "x.y"), ("file", 7, 0, "")]


def folder(number, **entries):
    return ("folder", number, list(entries.items()))


def file(number):
    return ("file", number, 0, "")


def root(**entries):
    return folder(0, clash=1, **entries)


class LookerCase(unittest.TestCase):
    def tells(self, table, fault):
        """In any order of the rows and entries the same is told, and the table stays as it is."""
        chance = random.Random(1)
        for times in range(4):
            with self.subTest(table=table):
                before = copy.deepcopy(table)
                told = looked(table)
                self.assertEqual(told, fault)
                self.assertEqual(looked(table), fault)
                self.assertEqual(table, before)
                if fault is not None:
                    self.assertIsInstance(told, tuple)
                    self.assertIs(is_fault(table, fault), True)
                    with self.assertRaises(NoOrder) as taken:
                        shelf_of(table)
                    self.assertEqual(taken.exception.fault, fault)
            table = [row[:2] + (chance.sample(row[2], len(row[2])),) if row[0] == "folder" else row for row in table]
            chance.shuffle(table)

    def tells_ring(self, table, folders):
        told = looked(table)
        self.assertEqual(told[0], "ring")
        self.assertIsInstance(told[1], list)
        self.assertEqual(len(told), 2)
        self.assertCountEqual(told[1], folders)
        self.assertIs(is_fault(table, told), True)
        with self.assertRaises(NoOrder) as taken:
            shelf_of(table)
        self.assertEqual(taken.exception.fault[0], "ring")

    def is_so(self, table, *faults):
        for fault in faults:
            with self.subTest(fault=fault):
                before = copy.deepcopy((table, fault))
                self.assertIs(is_fault(table, fault), True)
                self.assertEqual((table, fault), before)

    def is_not_so(self, table, *faults):
        for fault in faults:
            with self.subTest(fault=fault):
                self.assertIs(is_fault(table, fault), False)


class InOrder(LookerCase):
    def test_in_order(self):
        self.tells(NEW, None)
        self.tells(GOOD, None)
        self.tells(rows_of(Shelf()), None)

    def test_any_numbers_and_versions(self):
        self.tells([root(z=999999999999), folder(1, q=10 ** 15), folder(999999999999, y=50), folder(50),
                    ("file", 10 ** 15, 10 ** 15, "a")], None)

    def test_a_file_of_several_names(self):
        self.tells([root(a=2, b=2), folder(1, c=2), file(2)], None)

    def test_deep(self):
        table = [root(a=2), folder(1)] + [folder(number, a=number + 1) for number in range(2, 599)] + [folder(599)]
        self.tells(table, None)
        self.tells(table[:-1] + [folder(599, b=300)], ("names", 300))
        self.tells_ring([root(), folder(1)] + table[2:-1] + [folder(599, b=2)], list(range(2, 600)))


class EachFault(LookerCase):
    def test_twice(self):
        for other in (file(3), folder(3), folder(3, x=4)):
            self.tells(GOOD + [other], ("twice", 3))
        self.tells(GOOD + [folder(0, a=2)], ("twice", 0))
        self.tells(GOOD + [file(7)] + [folder(3)] * 2 + [file(4)], ("twice", 3))
        self.tells([file(5), file(5)], ("twice", 5))
        self.tells(GOOD + [file(10), file(10), file(9), file(9)], ("twice", 9))

    def test_root(self):
        self.tells([], ("root",))
        self.tells([folder(0)], ("root",))
        self.tells([folder(1)], ("root",))
        self.tells([folder(0), folder(1)], ("root",))
        self.tells([folder(0, clash=2), folder(1), folder(2)], ("root",))
        self.tells([folder(0, clash=2), folder(1, clash=1), folder(2)], ("root",))
        self.tells([folder(0, klash=1), folder(1)], ("root",))
        self.tells([root()], ("root",))
        self.tells([root(), file(1)], ("root",))
        self.tells([file(0), folder(1)], ("root",))
        self.tells([folder(2, clash=1), folder(1)], ("root",))
        self.tells([folder(0, a=2), folder(1), folder(2, clash=1)], ("root",))

    def test_same(self):
        self.tells([root(a=2), folder(1), ("folder", 2, [("b", 3), ("b", 4)]), file(3), file(4)], ("same", 2, "b"))
        self.tells([root(a=2), folder(1), ("folder", 2, [("b", 3), ("b", 3)]), file(3)], ("same", 2, "b"))
        self.tells([("folder", 0, [("clash", 1), ("clash", 2)]), folder(1), folder(2)], ("same", 0, "clash"))
        self.tells([("folder", 0, [("clash", 1), ("clash", 1)]), folder(1)], ("same", 0, "clash"))

    def test_the_least_same(self):
        twice = [("b", 3), ("a", 3), ("b", 3), ("a", 3), ("a", 3)]
        self.tells([root(a=2, b=10), folder(1), ("folder", 10, twice), ("folder", 2, [("z", 3), ("z", 3)]), file(3)],
                   ("same", 2, "z"))
        self.tells([root(a=2), folder(1), ("folder", 2, twice), file(3)], ("same", 2, "a"))
        self.tells([root(a=2), folder(1), ("folder", 2, [("b", 3), ("b", 3), ("10", 3), ("10", 3), ("9", 3),
                                                         ("9", 3)]), file(3)], ("same", 2, "10"))

    def test_blind(self):
        self.tells([root(a=2), folder(1)], ("blind", 0, "a"))
        self.tells([root(a=2), folder(1, x=9), folder(2, y=8, b=7)], ("blind", 1, "x"))
        self.tells([root(a=2), folder(1), folder(2, y=8, b=7)], ("blind", 2, "b"))
        self.tells([root(a=2, b=10), folder(1), folder(2), folder(10, a=5)], ("blind", 10, "a"))

    def test_names(self):
        self.tells([root(), folder(1), folder(2)], ("names", 2))
        self.tells([root(a=2, b=2), folder(1), folder(2)], ("names", 2))
        self.tells([root(a=2), folder(1, a=2), folder(2)], ("names", 2))
        self.tells([root(a=2), folder(1), folder(2, a=2)], ("names", 2))
        self.tells([root(a=2), folder(1, a=2, b=2, c=2), folder(2)], ("names", 2))
        self.tells([root(), folder(1), folder(10), folder(9)], ("names", 9))

    def test_names_of_root_and_clash(self):
        self.tells([root(a=0), folder(1)], ("names", 0))
        self.tells([root(), folder(1, a=0)], ("names", 0))
        self.tells([root(a=0, b=0), folder(1)], ("names", 0))
        self.tells([root(a=1), folder(1)], ("names", 1))
        self.tells([root(), folder(1, a=1)], ("names", 1))
        self.tells([root(a=2), folder(1), folder(2, a=1)], ("names", 1))
        self.tells([root(a=2), folder(1), folder(2, a=1, b=0), folder(3)], ("names", 0))

    def test_loose(self):
        self.tells([root(), folder(1), file(2)], ("loose", 2))
        self.tells([root(a=3), folder(1), file(10), file(9), file(3)], ("loose", 9))

    def test_rings(self):
        self.tells_ring([root(), folder(1), folder(2, a=2)], [2])
        self.tells_ring([root(), folder(1), folder(2, a=3), folder(3, a=2)], [2, 3])
        self.tells_ring([root(), folder(1), folder(7, a=3), folder(5, a=7), folder(3, a=5)], [3, 5, 7])

    def test_a_ring_with_folders_and_files_beneath(self):
        self.tells_ring([root(x=9), folder(1), folder(9), folder(2, a=3), folder(3, a=4, b=2), folder(4, a=5, f=6),
                         folder(5, a=8), folder(8), file(6)], [2, 3])
        self.tells_ring([root(), folder(1), folder(9, a=9, b=2), folder(2, a=3), folder(3)], [9])

    def test_one_of_several_rings(self):
        told = looked([root(), folder(1), folder(2, a=2), folder(3, a=4), folder(4, a=3)])
        self.assertIn(told, [("ring", [2]), ("ring", [3, 4]), ("ring", [4, 3])])


class Several(LookerCase):
    """A table that has each fault, and those that are left when the first is mended."""

    def test_the_first_that_is_due(self):
        rows = [folder(0, a=0, x=77), folder(1), ("folder", 2, [("a", 3), ("a", 3)]), folder(3), folder(4), file(5),
                folder(6, a=6), file(9), file(9)]
        self.tells(rows, ("twice", 9))
        rows = rows[:-1]
        self.tells(rows, ("root",))
        rows = [root(a=0, x=77)] + rows[1:]
        self.tells(rows, ("same", 2, "a"))
        rows = rows[:2] + [folder(2, a=3)] + rows[3:]
        self.tells(rows, ("blind", 0, "x"))
        rows = [root(a=0)] + rows[1:]
        self.tells(rows, ("names", 0))
        rows = [root()] + rows[1:]
        self.tells(rows, ("names", 2))
        rows = [root(b=2, c=4)] + rows[1:]
        self.tells(rows, ("loose", 5))
        rows = [root(b=2, c=4, d=5, e=9)] + rows[1:]
        self.tells_ring(rows, [6])
        rows = rows[:6] + rows[7:]
        self.tells(rows, None)

    def test_same_is_due_ahead_of_a_blind_one_of_a_lesser_folder(self):
        self.tells([root(a=9, b=2), folder(1), ("folder", 2, [("c", 3), ("c", 3)]), file(3)], ("same", 2, "c"))

    def test_same_and_blind_by_one_name(self):
        self.tells([root(b=2), folder(1), ("folder", 2, [("c", 3), ("c", 9)]), file(3)], ("same", 2, "c"))


class IsFault(LookerCase):
    def test_none_is_so_in_order(self):
        for table in (NEW, GOOD):
            self.is_not_so(table, ("twice", 0), ("twice", 4), ("twice", 99), ("root",), ("same", 0, "a"),
                           ("same", 9, "a"), ("same", 4, "a"), ("same", 0, "none"), ("blind", 0, "a"),
                           ("blind", 9, "a"), ("blind", 4, "a"), ("blind", 0, "none"), ("names", 0), ("names", 1),
                           ("names", 3), ("names", 4), ("names", 99), ("loose", 4), ("loose", 2), ("loose", 99),
                           ("ring", []), ("ring", [0]), ("ring", [0, 1]), ("ring", [0, 2, 3]), ("ring", [99]),
                           ("ring", [4]))

    def test_twice(self):
        table = GOOD + [file(7), file(7), folder(3)]
        self.is_so(table, ("twice", 3), ("twice", 7))
        self.is_not_so(table, ("twice", 0), ("twice", 4), ("twice", 99))

    def test_root(self):
        for table in ([], [folder(0), folder(1)], [root()], [root(), file(1)], [folder(0, clash=2), folder(2)]):
            self.is_so(table, ("root",))
        self.is_not_so([("folder", 0, [("clash", 5), ("clash", 1)]), folder(1)], ("root",))

    def test_same(self):
        table = [root(b=3), folder(1), ("folder", 2, [("b", 3), ("b", 4), ("a", 1), ("a", 1), ("c", 3)]),
                 ("folder", 3, [("z", 9), ("z", 8)])]
        self.is_so(table, ("same", 2, "a"), ("same", 2, "b"), ("same", 3, "z"))
        self.is_not_so(table, ("same", 2, "c"), ("same", 0, "b"), ("same", 3, "a"), ("same", 9, "z"))

    def test_blind(self):
        table = [root(a=9, b=2), folder(1, q=8, w=2), ("folder", 2, [("c", 3), ("c", 7), ("d", 7), ("d", 3), ("e", 3)]),
                 file(3)]
        self.is_so(table, ("blind", 0, "a"), ("blind", 1, "q"), ("blind", 2, "c"), ("blind", 2, "d"))
        self.is_not_so(table, ("blind", 0, "b"), ("blind", 1, "w"), ("blind", 2, "e"), ("blind", 3, "a"),
                       ("blind", 9, "a"), ("blind", 0, "q"))

    def test_names(self):
        table = [root(a=2, b=3, c=6), folder(1, a=0), folder(2, a=3, b=1), folder(3), folder(4), file(5), file(6)]
        self.is_so(table, ("names", 0), ("names", 1), ("names", 3), ("names", 4))
        self.is_not_so(table, ("names", 2), ("names", 5), ("names", 6), ("names", 9))
        self.is_not_so([folder(1, a=0), file(0)], ("names", 0))
        self.is_so([folder(1, a=0), folder(0)], ("names", 0), ("names", 1))

    def test_loose(self):
        table = [root(a=2, b=4), folder(1), folder(3), file(2), file(5), file(6)]
        self.is_so(table, ("loose", 5), ("loose", 6))
        self.is_not_so(table, ("loose", 2), ("loose", 3), ("loose", 4), ("loose", 9))

    def test_ring(self):
        table = [root(a=2, z=0), folder(1), folder(2, b=3, c=2, d=9), folder(3, b=4), folder(4, b=2, c=3, d=9),
                 folder(5, a=6), file(6), file(9)]
        self.is_so(table, ("ring", [2]), ("ring", [2, 3, 4]), ("ring", [3, 4, 2]), ("ring", [4, 2, 3]),
                   ("ring", [3, 4]), ("ring", [4, 3]), ("ring", [0]))
        self.is_not_so(table, ("ring", []), ("ring", [3]), ("ring", [4, 3, 2]), ("ring", [2, 3]), ("ring", [2, 2]),
                       ("ring", [3, 4, 3, 4]), ("ring", [2, 9]), ("ring", [9]), ("ring", [0, 2]), ("ring", [5, 6]),
                       ("ring", [99]), ("ring", [2, 3, 4, 2]))

    def test_a_ring_through_the_root(self):
        table = [root(a=2), folder(1), folder(2, b=0)]
        self.is_so(table, ("ring", [0, 2]), ("ring", [2, 0]), ("names", 0))


class Shelves(LookerCase):
    def test_rows_of_tells_the_same_rising(self):
        chance = random.Random(5)
        for times in range(10):
            table = [row[:2] + (chance.sample(row[2], len(row[2])),) if row[0] == "folder" else row for row in GOOD]
            chance.shuffle(table)
            shelf = shelf_of(table)
            self.assertIsInstance(shelf, Shelf)
            self.assertEqual(rows_of(shelf), GOOD)
        self.assertEqual(paths_of(shelf, 4), ["/a/f", "/g"])
        self.assertEqual(node_at(shelf, "/a/b"), 3)

    def test_the_next_number(self):
        self.assertEqual(done(shelf_of(GOOD), ("fold", 0, "n")), ("made", 8))
        self.assertEqual(done(shelf_of(NEW), ("make", 0, "n", "")), ("made", 2))
        self.assertEqual(done(shelf_of([root(a=50), folder(1, b=7), file(7), folder(50)]), ("fold", 0, "n")),
                         ("made", 51))
        self.assertEqual(done(like(shelf_of([root(a=50), folder(1), file(50)])), ("fold", 0, "n")), ("made", 51))

    def test_nothing_is_shared_with_the_table(self):
        table = copy.deepcopy(GOOD)
        shelf = shelf_of(table)
        table[0][2].append(("z", 9))
        table.pop()
        self.assertEqual(rows_of(shelf), GOOD)
        done(shelf, ("fold", 3, "z"))
        self.assertEqual(table[3], ("folder", 3, []))

    def test_the_fault_is_the_askers_own(self):
        table = [root(), folder(1), folder(2, a=3), folder(3, a=2)]
        looked(table)[1].clear()
        self.tells_ring(table, [2, 3])

    def test_refusal(self):
        with self.assertRaises(ShelfError):
            shelf_of([])


def plain_faults(table):
    """All faults but rings, and the numbers of the folders to which no way leads from 0, each by plain search."""
    numbers = [row[1] for row in table]
    folders = [row for row in table if row[0] == "folder"]
    leads = [(row[1], name, node) for row in folders for name, node in row[2]]
    found = {"twice": [("twice", number) for number in numbers if numbers.count(number) > 1]}
    good = (0, "clash", 1) in leads and {0, 1} <= {row[1] for row in folders}
    found["root"] = [] if good else [("root",)]
    names = [lead[:2] for lead in leads]
    found["same"] = [("same",) + name for name in names if names.count(name) > 1]
    found["blind"] = [("blind", folder, name) for folder, name, node in leads if node not in numbers]
    nodes = [lead[2] for lead in leads]
    found["names"] = [("names", row[1]) for row in folders if nodes.count(row[1]) != (1 if row[1] else 0)]
    found["loose"] = [("loose", row[1]) for row in table if row[0] == "file" and row[1] not in nodes]
    reached = {0}
    while True:
        more = reached | {node for folder, name, node in leads if folder in reached}
        if more == reached:
            return found, [row[1] for row in folders if row[1] not in reached]
        reached = more


def drawn_table(chance):
    many = chance.randrange(2, 9)
    table = [("folder", 0, [("clash", 1)]), ("folder", 1, [])]
    table += [chance.choice((("folder", number, []), ("file", number, 0, ""))) for number in range(2, many)]
    folders = [row for row in table if row[0] == "folder"]
    for number in range(2, many):
        chance.choice(folders)[2].append((chance.choice("abcdef"), number))
    for times in range(chance.choice((0, 0, 0, 1, 2))):
        chance.choice(folders)[2].append((chance.choice("abcdef"), chance.randrange(many + 1)))
    for times in range(chance.choice((0, 0, 0, 0, 1, 2))):
        entries = chance.choice(folders)[2]
        if entries:
            entries.pop(chance.randrange(len(entries)))
    if chance.random() < 0.05:
        table.append(("file", chance.randrange(many), 0, ""))
    if chance.random() < 0.05:
        table.pop(chance.randrange(len(table)))
    chance.shuffle(table)
    return table


class Drawn(unittest.TestCase):
    def test_against_plain_search(self):
        chance = random.Random(6)
        forms = {}
        for times in range(4000):
            table = drawn_table(chance)
            found, unreached = plain_faults(table)
            told = looked(table)
            due = [min(found[form]) for form in ("twice", "root", "same", "blind", "names", "loose") if found[form]]
            if due:
                self.assertEqual(told, due[0])
            elif unreached:
                self.assertEqual(told[0], "ring")
                self.assertLessEqual(set(told[1]), set(unreached))
                self.assertIs(is_fault(table, told), True)
            else:
                self.assertIsNone(told)
                self.assertEqual(rows_of(shelf_of(table)),
                                 sorted([row[:2] + (sorted(row[2]),) if row[0] == "folder" else row for row in table],
                                        key=lambda row: row[1]))
            if not found["twice"]:
                self.compare_all(table, found)
            forms[told and told[0]] = forms.get(told and told[0], 0) + 1
        self.assertGreater(min(forms.values()), 20)
        self.assertEqual(len(forms), 8)

    def compare_all(self, table, found):
        for number in range(10):
            for fault in (("names", number), ("loose", number)):
                self.assertIs(is_fault(table, fault), fault in found[fault[0]])
            for name in ("a", "b", "clash"):
                for fault in (("same", number, name), ("blind", number, name)):
                    self.assertIs(is_fault(table, fault), fault in found[fault[0]])
        self.assertIs(is_fault(table, ("root",)), found["root"] != [])


if __name__ == "__main__":
    unittest.main()

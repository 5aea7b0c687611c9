import copy
import random
import unittest

from farshelf.errors import NoMend, ShelfError
from farshelf.looker import looked, shelf_of
from farshelf.mending import mended
from farshelf.shelf import paths_of, rows_of

LETTERS = "abcdefghijklmnopqrstuvwxyz"


def folder(number, **entries):
    return ("folder", number, list(entries.items()))


def file(number, version=0, content=""):
    return ("file", number, version, content)


def root(**entries):
    return folder(0, clash=1, **entries)


def rising(table):
    rows = [row[:2] + (sorted(row[2]),) if row[0] == "folder" else row for row in table]
    return sorted(rows, key=lambda row: row[1])


class MendingCase(unittest.TestCase):
    def mends(self, table, wanted):
        """In any order of the rows and entries; once or twice; the table stays as it is."""
        chance = random.Random(2)
        for times in range(4):
            with self.subTest(table=table):
                before = copy.deepcopy(table)
                self.assertEqual(mended(table), rising(wanted))
                self.assertEqual(table, before)
                self.assertEqual(mended(mended(table)), rising(wanted))
                self.assertIsNone(looked(mended(table)))
            table = [row[:2] + (chance.sample(row[2], len(row[2])),) if row[0] == "folder" else row for row in table]
            chance.shuffle(table)

    def refuses(self, table):
        with self.subTest(table=table):
            before = copy.deepcopy(table)
            with self.assertRaises(NoMend) as taken:
                mended(table)
            self.assertIsInstance(taken.exception, ShelfError)
            self.assertEqual(table, before)


class Refused(MendingCase):
    def test_twice(self):
        self.refuses([root(a=2), folder(1), folder(2), file(2)])
        self.refuses([root(), folder(1), folder(1)])

    def test_root(self):
        for table in ([], [folder(0), folder(1)], [root()], [root(), file(1)], [folder(0, clash=2), folder(1), folder(2)],
                      [file(0), folder(1)]):
            self.refuses(table)

    def test_same(self):
        self.refuses([root(a=2), folder(1), ("folder", 2, [("b", 3), ("b", 9)]), file(3)])
        self.refuses([("folder", 0, [("clash", 1), ("clash", 1)]), folder(1)])
        self.refuses([("folder", 0, [("clash", 1), ("clash", 7)]), folder(1)])
        self.refuses([root(b=9), folder(1), folder(2), ("folder", 3, [("b", 8), ("b", 8)])])


class InOrder(MendingCase):
    def test_told_as_it_is_rising(self):
        self.mends([root(), folder(1)], [root(), folder(1)])
        table = [file(9, 3, "x.y"), folder(5, q=7, b=9), root(z=5, a=9), folder(1, c9=9), file(7)]
        self.mends(table, table)

    def test_told_is_the_askers_own(self):
        table = [root(a=2), folder(1), folder(2, b=3), file(3)]
        told = mended(table)
        self.assertIsInstance(told, list)
        for row in told:
            if row[0] == "folder":
                row[2].clear()
        self.assertEqual(table, [root(a=2), folder(1), folder(2, b=3), file(3)])
        self.assertEqual(mended(table), rising(table))


class Steps(MendingCase):
    def test_entries_that_lead_to_no_row(self):
        self.mends([root(a=2, b=9), folder(1, c=8), folder(2, d=7, e=3), file(3)],
                   [root(a=2), folder(1), folder(2, e=3), file(3)])

    def test_entries_that_lead_to_the_root(self):
        self.mends([root(a=0, b=2), folder(1, a=0), folder(2, a=0)], [root(b=2), folder(1), folder(2)])

    def test_several_entries_to_a_folder(self):
        self.mends([root(b=2, a=2), folder(1), folder(2)], [root(a=2), folder(1), folder(2)])
        self.mends([root(a=9), folder(1), folder(9, z=3), folder(3, y=10), folder(10, a=9, b=3)],
                   [root(a=9), folder(1), folder(9, z=3), folder(3, y=10), folder(10)])
        self.mends([root(p=10, q=9), folder(1), folder(10, a=2), folder(9, z=2), folder(2)],
                   [root(p=10, q=9), folder(1), folder(10), folder(9, z=2), folder(2)])
        self.mends([root(z=2), folder(1, a=2), folder(2)], [root(z=2), folder(1), folder(2)])

    def test_entries_to_a_file_all_stay(self):
        table = [root(a=2, b=2), folder(1, c=2), file(2)]
        self.mends(table, table)

    def test_entries_to_clash(self):
        self.mends([root(a=1, b=2), folder(1, x=1), folder(2, y=1)], [root(b=2), folder(1), folder(2)])
        self.mends([root(aa=1), folder(1)], [root(), folder(1)])

    def test_folders_without_an_entry(self):
        self.mends([root(), folder(1), folder(5), folder(3, a=4), folder(4)],
                   [root(), folder(1, c5=5, c3=3), folder(5), folder(3, a=4), folder(4)])

    def test_files_without_an_entry(self):
        self.mends([root(a=2), folder(1), file(5, 7, "five"), file(2), file(99999)],
                   [root(a=2), folder(1, c5=5, c99999=99999), file(5, 7, "five"), file(2), file(99999)])

    def test_rings(self):
        self.mends([root(), folder(1), folder(5, a=5)], [root(), folder(1, c5=5), folder(5)])
        self.mends([root(), folder(1), folder(5, a=3), folder(3, b=5)],
                   [root(), folder(1, c3=3), folder(5), folder(3, b=5)])
        self.mends([root(), folder(1), folder(7, a=3), folder(5, a=7), folder(3, a=5)],
                   [root(), folder(1, c3=3), folder(7), folder(5, a=7), folder(3, a=5)])
        self.mends([root(), folder(1), folder(9, a=10), folder(10, a=9)],
                   [root(), folder(1, c9=9), folder(9, a=10), folder(10)])

    def test_several_rings(self):
        self.mends([root(), folder(1), folder(5, a=5), folder(2, a=3), folder(3, a=2, f=4), file(4), folder(7, z=8),
                    folder(8, z=7)],
                   [root(), folder(1, c5=5, c2=2, c7=7), folder(5), folder(2, a=3), folder(3, f=4), file(4),
                    folder(7, z=8), folder(8)])


class HangTogether(MendingCase):
    def test_an_entry_left_out_leaves_a_folder_without_one(self):
        # 1's entry would be the first by (w, a) but is not that of 0 by clash; 2's only entry stands in none.
        self.mends([root(b=2), folder(1), folder(2, x=0, y=1, z=3), folder(3, q=2)],
                   [root(b=2), folder(1), folder(2, z=3), folder(3)])

    def test_the_first_entry_may_be_the_one_of_a_ring(self):
        # Of 9's entries that of 2 is kept, not that of 5, and so 2 and 9 are a ring.
        self.mends([root(a=5), folder(1), folder(2, a=9), folder(5, a=9), folder(9, a=2)],
                   [root(a=5), folder(1, c2=2), folder(2, a=9), folder(5), folder(9)])

    def test_a_ring_with_a_tail(self):
        self.mends([root(), folder(1), folder(4, a=5), folder(5, a=4, b=3), folder(3, a=6, f=7), folder(6), file(7)],
                   [root(), folder(1, c4=4), folder(4, a=5), folder(5, b=3), folder(3, a=6, f=7), folder(6), file(7)])

    def test_a_folder_above_a_ring_loses_its_entry_to_it(self):
        # 8 has the later entry to 2, so it is left out; 8 is put into 1 and the ring stays for the step behind.
        self.mends([root(), folder(1), folder(8, a=2), folder(2, a=3), folder(3, a=2)],
                   [root(), folder(1, c8=8, c2=2), folder(8), folder(2, a=3), folder(3)])

    def test_a_folder_put_into_clash_that_holds_what_was_a_ring(self):
        # 2 has the first entry to 3, so the ring 3, 4 is none any more when 2 is put into 1.
        self.mends([root(), folder(1), folder(2, a=3), folder(3, a=4), folder(4, a=3)],
                   [root(), folder(1, c2=2), folder(2, a=3), folder(3, a=4), folder(4)])

    def test_entries_of_a_ring_through_the_root(self):
        self.mends([root(a=2), folder(1), folder(2, a=3), folder(3, a=0)],
                   [root(a=2), folder(1), folder(2, a=3), folder(3)])

    def test_a_ring_through_clash(self):
        self.mends([root(), folder(1, a=2), folder(2, a=1)], [root(), folder(1, a=2), folder(2)])

    def test_all_at_once(self):
        self.mends([root(a=9, b=1, c=0, d=3), folder(1, c5=6), folder(3, a=3, f=10), folder(4, a=77), folder(5, x=8),
                    folder(8, x=5), file(6), file(7, 2, "seven"), file(10)],
                   [root(d=3), folder(1, c4=4, c5=6, c5a=5, c7=7), folder(3, f=10), folder(4), folder(5, x=8), folder(8),
                    file(6), file(7, 2, "seven"), file(10)])


class ClashNames(MendingCase):
    def test_there_already(self):
        self.mends([root(), folder(1, c5=2), file(2), folder(5)], [root(), folder(1, c5=2, c5a=5), file(2), folder(5)])
        self.mends([root(), folder(1, c5=2, c5a=2, c5c=2), file(2), file(5)],
                   [root(), folder(1, c5=2, c5a=2, c5c=2, c5b=5), file(2), file(5)])

    def test_left_out_ahead_is_not_there(self):
        self.mends([root(), folder(1, c5=9), folder(5)], [root(), folder(1, c5=5), folder(5)])
        self.mends([root(a=2), folder(1, c5=2), folder(2), folder(5)], [root(a=2), folder(1, c5=5), folder(2), folder(5)])

    def test_own_name_there_for_itself(self):
        self.mends([root(), folder(1, c5=5), folder(5)], [root(), folder(1, c5=5), folder(5)])

    def test_through_the_letters(self):
        names = ["c99999"] + ["c99999" + letter for letter in LETTERS]
        names += ["c99999" + first + second for first in LETTERS for second in LETTERS]
        for many in (0, 1, 2, 26, 27, 28, 52, 53, 54, 300, len(names) - 1):
            for lone in (folder(99999), file(99999), folder(99999, a=99999)):
                entries = dict.fromkeys(names[:many], 2)
                table = [root(), folder(1, q=2, **entries), file(2), lone]
                told = shelf_of(mended(table))
                self.assertEqual(paths_of(told, 99999), ["/clash/" + names[many]])

    def test_the_first_that_is_not_there(self):
        self.mends([root(), folder(1, c5a=2), file(2), folder(5)], [root(), folder(1, c5a=2, c5=5), file(2), folder(5)])


def plain_mended(table):
    """The steps on a list of (folder, name, node), each by plain search."""
    numbers = [row[1] for row in table]
    folders = sorted(row[1] for row in table if row[0] == "folder")
    files = sorted(row[1] for row in table if row[0] == "file")
    leads = sorted((row[1], name, node) for row in table if row[0] == "folder" for name, node in row[2])
    leads = [lead for lead in leads if lead[2] in numbers and lead[2] != 0]
    for number in folders:
        to_it = [lead for lead in leads if lead[2] == number]
        first = (0, "clash", 1) if number == 1 else to_it[0] if to_it else None
        leads = [lead for lead in leads if lead[2] != number or lead == first]

    def put(number):
        taken = {name for folder, name, node in leads if folder == 1}
        tails = [""] + list(LETTERS) + [first + second for first in LETTERS for second in LETTERS]
        leads.append((1, [f"c{number}{tail}" for tail in tails if f"c{number}{tail}" not in taken][0], number))

    for number in folders:
        if number and not any(lead[2] == number for lead in leads):
            put(number)
    above = {node: folder for folder, name, node in leads if node in folders}
    rings = set()
    for number in folders:
        way = [number]
        while way[-1] in above and way[-1] not in way[:-1]:
            way.append(above[way[-1]])
        if way[-1] in way[:-1]:
            rings.add(min(way[way.index(way[-1]):]))
    for least in sorted(rings):
        leads.remove([lead for lead in leads if lead[2] == least][0])
        put(least)
    for number in files:
        if not any(lead[2] == number for lead in leads):
            put(number)
    return rising([("folder", row[1], [lead[1:] for lead in leads if lead[0] == row[1]]) if row[0] == "folder" else row
                   for row in table])


def drawn_table(chance):
    many = chance.randrange(2, 12)
    table = [("folder", 0, [("clash", 1)]), ("folder", 1, [])]
    table += [chance.choice((("folder", number, []), ("folder", number, []), ("file", number, 4, "c")))
              for number in range(2, many)]
    folders = [row for row in table if row[0] == "folder"]
    for times in range(chance.randrange(many * 2)):
        name = chance.choice(("a", "b", "c", "d", "e", "c3", "c4a", "c5"))
        entries = chance.choice(folders)[2]
        if name not in [entry[0] for entry in entries]:
            entries.append((name, chance.randrange(many + 1)))
    chance.shuffle(table)
    return table


class Drawn(unittest.TestCase):
    def test_against_plain_steps(self):
        chance = random.Random(3)
        for times in range(2500):
            table = drawn_table(chance)
            before = copy.deepcopy(table)
            told = mended(table)
            self.assertEqual(table, before)
            self.assertEqual(told, plain_mended(table))
            self.assertIsNone(looked(told))
            self.assertEqual([row[:2] if row[0] == "folder" else row for row in told],
                             sorted([row[:2] if row[0] == "folder" else row for row in table], key=lambda row: row[1]))
            self.assertEqual(mended(told), told)
            self.assertEqual(rows_of(shelf_of(told)), told)
            if looked(table) is None:
                self.assertEqual(told, rising(table))

    def test_a_large_one(self):
        chance = random.Random(4)
        table = [root(), folder(1)] + [("folder", number, []) for number in range(2, 600)]
        for row in table[2:]:
            for name in "abc":
                row[2].append((name, chance.randrange(600)))
        told = mended(table)
        self.assertEqual(told, plain_mended(table))
        self.assertIsNone(looked(told))


if __name__ == "__main__":
    unittest.main()

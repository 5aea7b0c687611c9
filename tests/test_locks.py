import random
import unittest

from farshelf.errors import Ring, Waiting
from farshelf.locks import Locks, against, held, waited_for, wishes

FILE = 5


class LocksCase(unittest.TestCase):
    def setUp(self):
        self.locks = Locks()

    def take(self, hand, sort, low, high):
        return self.locks.take(hand, FILE, sort, low, high)

    def holds(self, hand, sort, low, high, hands=()):
        self.assertEqual(self.take(hand, sort, low, high), ("held", list(hands)))

    def waits(self, hand, sort, low, high, hands):
        self.assertEqual(self.take(hand, sort, low, high), ("waits", list(hands)))

    def frees(self, hand, low, high, hands=()):
        self.assertEqual(self.locks.free(hand, FILE, low, high), list(hands))

    def leaves(self, hand, hands=()):
        self.assertEqual(self.locks.leave(hand), list(hands))

    def rows(self, *rows):
        self.assertEqual(held(self.locks, FILE), list(rows))

    def wished(self, *hands):
        self.assertEqual([wish[0] for wish in wishes(self.locks)], list(hands))


class Held(LocksCase):
    def test_new(self):
        self.rows()
        self.assertEqual(wishes(self.locks), [])
        self.assertEqual(waited_for(self.locks, 1), [])

    def test_kinds(self):
        self.holds(1, "write", 0, 9)
        answer = self.take(2, "read", 0, 9)
        self.assertIsInstance(answer, tuple)
        self.assertIsInstance(answer[1], list)
        self.assertIsInstance(held(self.locks, FILE), list)
        self.assertIsInstance(held(self.locks, FILE)[0], tuple)
        self.assertIsInstance(wishes(self.locks)[0], tuple)
        self.assertIsInstance(waited_for(self.locks, 2), list)

    def test_to_read_beside_one_another(self):
        self.holds(2, "read", 0, 9)
        self.holds(1, "read", 3, 12)
        self.holds(3, "read", 0, 9)
        self.rows((0, 9, "read", 2), (0, 9, "read", 3), (3, 12, "read", 1))

    def test_rising_by_all_parts(self):
        self.holds(3, "read", 0, 5)
        self.holds(1, "read", 0, 9)
        self.holds(2, "read", 0, 5)
        self.holds(4, "write", 10, 12)
        self.rows((0, 5, "read", 2), (0, 5, "read", 3), (0, 9, "read", 1), (10, 12, "write", 4))

    def test_to_write_side_by_side(self):
        self.holds(1, "write", 0, 5)
        self.holds(2, "write", 5, 9)
        self.holds(3, "read", 9, 10)
        self.rows((0, 5, "write", 1), (5, 9, "write", 2), (9, 10, "read", 3))

    def test_files_are_apart(self):
        self.holds(1, "write", 0, 9)
        self.assertEqual(self.locks.take(2, 6, "write", 0, 9), ("held", []))
        self.rows((0, 9, "write", 1))
        self.assertEqual(held(self.locks, 6), [(0, 9, "write", 2)])
        self.assertEqual(held(self.locks, 7), [])
        self.frees(2, 0, 9)
        self.assertEqual(held(self.locks, 6), [(0, 9, "write", 2)])

    def test_taken_again(self):
        self.holds(1, "read", 0, 9)
        self.holds(1, "read", 0, 9)
        self.rows((0, 9, "read", 1))

    def test_taken_again_to_the_other_sort(self):
        self.holds(1, "read", 0, 9)
        self.holds(1, "write", 0, 9)
        self.rows((0, 9, "write", 1))
        self.holds(1, "read", 0, 9)
        self.rows((0, 9, "read", 1))

    def test_taken_again_to_the_other_sort_in_part(self):
        self.holds(1, "read", 0, 9)
        self.holds(1, "write", 3, 5)
        self.rows((0, 3, "read", 1), (3, 5, "write", 1), (5, 9, "read", 1))
        self.holds(1, "write", 5, 12)
        self.rows((0, 3, "read", 1), (3, 12, "write", 1))
        self.holds(1, "read", 2, 4)
        self.rows((0, 4, "read", 1), (4, 12, "write", 1))
        self.holds(1, "read", 4, 12)
        self.rows((0, 12, "read", 1))

    def test_to_write_what_another_reads_as_well(self):
        self.holds(1, "read", 0, 9)
        self.holds(2, "read", 5, 9)
        self.holds(1, "write", 0, 5)
        self.rows((0, 5, "write", 1), (5, 9, "read", 1), (5, 9, "read", 2))
        self.waits(1, "write", 4, 6, [2])
        self.rows((0, 5, "write", 1), (5, 9, "read", 1), (5, 9, "read", 2))

    def test_each_as_long_as_can_be(self):
        for low in (8, 0, 4, 2, 6):
            self.holds(1, "read", low, low + 2)
        self.rows((0, 10, "read", 1))
        self.holds(2, "read", 10, 12)
        self.holds(1, "write", 12, 14)
        self.holds(1, "read", 16, 18)
        self.rows((0, 10, "read", 1), (10, 12, "read", 2), (12, 14, "write", 1), (16, 18, "read", 1))
        self.holds(1, "read", 10, 16)
        self.rows((0, 18, "read", 1), (10, 12, "read", 2))

    def test_over_what_is_held_and_beyond(self):
        self.holds(1, "read", 3, 5)
        self.holds(1, "write", 7, 8)
        self.holds(1, "read", 0, 20)
        self.rows((0, 20, "read", 1))

    def test_great_numbers(self):
        self.holds(1, "write", 0, 999999999999)
        self.waits(2, "read", 999999999998, 999999999999, [1])
        self.frees(1, 999999999998, 999999999999, [2])
        self.rows((0, 999999999998, "write", 1), (999999999998, 999999999999, "read", 2))

    def test_without_a_place_nothing_is_held(self):
        self.holds(1, "write", 0, 9)
        self.holds(2, "write", 5, 5)
        self.rows((0, 9, "write", 1))
        self.frees(1, 5, 5)
        self.rows((0, 9, "write", 1))

    def test_hand_and_file_0(self):
        self.assertEqual(self.locks.take(0, 0, "write", 0, 1), ("held", []))
        self.assertEqual(self.locks.take(1, 0, "write", 0, 1), ("waits", [0]))
        self.assertEqual(self.locks.leave(0), [1])


class Waits(LocksCase):
    def test_each_two_sorts(self):
        for first, second, answer in (("read", "read", "held"), ("read", "write", "waits"),
                                      ("write", "read", "waits"), ("write", "write", "waits")):
            with self.subTest(first=first, second=second):
                locks = Locks()
                locks.take(1, FILE, first, 2, 5)
                self.assertEqual(locks.take(2, FILE, second, 4, 7)[0], answer)

    def test_by_one_place(self):
        for low, high, answer in ((0, 2, "held"), (0, 3, "waits"), (4, 5, "waits"), (5, 6, "held"), (3, 4, "waits"),
                                  (0, 9, "waits"), (2, 5, "waits")):
            with self.subTest(low=low, high=high):
                locks = Locks()
                locks.take(1, FILE, "write", 2, 5)
                self.assertEqual(locks.take(2, FILE, "read", low, high)[0], answer)

    def test_told_who_holds_against_rising_each_once(self):
        self.holds(4, "read", 0, 2)
        self.holds(2, "read", 1, 3)
        self.holds(4, "read", 4, 6)
        self.holds(3, "write", 7, 8)
        self.holds(1, "read", 20, 30)
        self.waits(9, "write", 0, 10, [2, 3, 4])
        self.assertEqual(waited_for(self.locks, 9), [2, 3, 4])
        self.waits(8, "read", 0, 10, [3])
        self.assertEqual(waited_for(self.locks, 8), [3])
        self.assertEqual(waited_for(self.locks, 1), [])

    def test_own_stretches_are_never_against(self):
        self.holds(1, "write", 0, 9)
        self.holds(1, "write", 3, 12)
        self.rows((0, 12, "write", 1))

    def test_a_wish_holds_nothing(self):
        self.holds(1, "read", 0, 5)
        self.waits(2, "write", 0, 9, [1])
        self.rows((0, 5, "read", 1))
        self.holds(3, "write", 5, 9)
        self.holds(4, "read", 0, 5)
        self.assertEqual(waited_for(self.locks, 2), [1, 3, 4])

    def test_wishes_in_their_order(self):
        self.holds(1, "write", 0, 9)
        self.waits(3, "read", 4, 6, [1])
        self.waits(2, "write", 0, 1, [1])
        self.assertEqual(wishes(self.locks), [(3, FILE, "read", 4, 6), (2, FILE, "write", 0, 1)])

    def test_waiting(self):
        self.holds(1, "write", 0, 9)
        self.waits(2, "read", 0, 9, [1])
        for file, low, high in ((FILE, 0, 9), (FILE, 20, 30), (6, 0, 9)):
            with self.assertRaises(Waiting):
                self.locks.take(2, file, "read", low, high)
        self.assertEqual(wishes(self.locks), [(2, FILE, "read", 0, 9)])
        self.rows((0, 9, "write", 1))
        self.assertEqual(held(self.locks, 6), [])

    def test_waiting_ahead_of_a_ring(self):
        self.holds(1, "write", 0, 5)
        self.holds(2, "write", 5, 9)
        self.waits(1, "write", 5, 9, [2])
        with self.assertRaises(Waiting):
            self.take(1, "read", 5, 6)

    def test_no_waiting_behind_the_wish(self):
        self.holds(1, "write", 0, 9)
        self.waits(2, "read", 0, 9, [1])
        self.frees(1, 0, 9, [2])
        self.holds(2, "read", 20, 30)


class Wishes(LocksCase):
    def test_behind_free(self):
        self.holds(1, "write", 0, 9)
        self.waits(2, "read", 0, 3, [1])
        self.waits(3, "write", 5, 9, [1])
        self.frees(1, 6, 9)
        self.wished(2, 3)
        self.frees(1, 5, 6, [3])
        self.rows((0, 5, "write", 1), (5, 9, "write", 3))
        self.wished(2)
        self.assertEqual(waited_for(self.locks, 3), [])

    def test_the_eldest_first_and_the_younger_against_it_waits_on(self):
        self.holds(1, "write", 0, 9)
        self.waits(4, "write", 0, 9, [1])
        self.waits(2, "write", 0, 9, [1])
        self.waits(3, "read", 0, 9, [1])
        self.frees(1, 0, 9, [4])
        self.wished(2, 3)
        self.assertEqual(waited_for(self.locks, 2), [4])
        self.leaves(4, [2])
        self.leaves(2, [3])
        self.rows((0, 9, "read", 3))

    def test_a_younger_one_that_nobody_holds_against_goes_ahead(self):
        self.holds(1, "write", 0, 5)
        self.holds(2, "write", 5, 9)
        self.waits(3, "write", 0, 9, [1, 2])
        self.waits(4, "read", 0, 5, [1])
        self.waits(5, "read", 0, 4, [1])
        self.leaves(1, [4, 5])
        self.wished(3)
        self.assertEqual(waited_for(self.locks, 3), [2, 4, 5])

    def test_several_in_their_order(self):
        self.holds(1, "write", 0, 9)
        self.waits(5, "read", 0, 9, [1])
        self.waits(3, "read", 2, 3, [1])
        self.waits(4, "read", 0, 9, [1])
        self.frees(1, 0, 9, [5, 3, 4])
        self.wished()

    def test_behind_a_take_that_is_held(self):
        self.holds(1, "write", 0, 9)
        self.waits(3, "read", 0, 2, [1])
        self.waits(2, "read", 3, 5, [1])
        self.waits(4, "write", 7, 8, [1])
        self.holds(1, "read", 0, 9, [3, 2])
        self.wished(4)
        self.rows((0, 2, "read", 3), (0, 9, "read", 1), (3, 5, "read", 2))

    def test_none_behind_a_take_that_waits(self):
        self.holds(1, "write", 0, 9)
        self.waits(3, "read", 0, 2, [1])
        self.waits(2, "read", 3, 5, [1])
        self.wished(3, 2)

    def test_an_elder_one_made_free_by_a_younger_one(self):
        self.holds(2, "write", 0, 5)
        self.holds(1, "write", 5, 9)
        self.waits(3, "read", 0, 3, [2])
        self.waits(2, "read", 0, 9, [1])
        self.frees(1, 5, 9, [2, 3])
        self.rows((0, 3, "read", 3), (0, 9, "read", 2))
        self.wished()

    def test_behind_one_made_free_the_eldest_again(self):
        self.holds(2, "write", 0, 5)
        self.holds(1, "write", 5, 9)
        self.waits(3, "write", 0, 3, [2])
        self.waits(4, "read", 3, 5, [2])
        self.waits(2, "read", 2, 9, [1])
        self.waits(5, "read", 8, 9, [1])
        self.frees(1, 5, 9, [2, 4, 5])
        self.wished(3)

    def test_a_held_wish_takes_what_the_hand_held_to_that_sort(self):
        self.holds(1, "read", 0, 9)
        self.holds(2, "read", 4, 6)
        self.waits(1, "write", 3, 7, [2])
        self.rows((0, 9, "read", 1), (4, 6, "read", 2))
        self.leaves(2, [1])
        self.rows((0, 3, "read", 1), (3, 7, "write", 1), (7, 9, "read", 1))

    def test_leave_takes_the_wish_too(self):
        self.holds(1, "write", 0, 9)
        self.waits(2, "write", 0, 9, [1])
        self.waits(3, "write", 0, 9, [1])
        self.leaves(2)
        self.wished(3)
        self.leaves(1, [3])
        self.rows((0, 9, "write", 3))
        self.leaves(3)
        self.rows()

    def test_leave_of_all_files(self):
        for file in (4, 5, 6):
            self.locks.take(1, file, "write", 0, 9)
        self.locks.take(2, 6, "read", 3, 4)
        self.locks.take(3, 4, "read", 3, 4)
        self.leaves(1, [2, 3])
        self.assertEqual(held(self.locks, 4), [(3, 4, "read", 3)])
        self.assertEqual(held(self.locks, 5), [])
        self.assertEqual(held(self.locks, 6), [(3, 4, "read", 2)])

    def test_leave_of_one_who_has_nothing(self):
        self.holds(1, "write", 0, 9)
        self.leaves(7)
        self.rows((0, 9, "write", 1))


class Frees(LocksCase):
    def test_in_the_middle(self):
        self.holds(1, "write", 0, 9)
        self.frees(1, 3, 5)
        self.rows((0, 3, "write", 1), (5, 9, "write", 1))

    def test_ends(self):
        self.holds(1, "read", 2, 9)
        self.frees(1, 0, 3)
        self.rows((3, 9, "read", 1))
        self.frees(1, 8, 20)
        self.rows((3, 8, "read", 1))
        self.frees(1, 3, 8)
        self.rows()

    def test_across_several(self):
        self.holds(1, "read", 0, 4)
        self.holds(1, "write", 4, 6)
        self.holds(1, "read", 8, 12)
        self.holds(2, "read", 0, 4)
        self.frees(1, 3, 9)
        self.rows((0, 3, "read", 1), (0, 4, "read", 2), (9, 12, "read", 1))

    def test_where_nothing_is_held(self):
        self.frees(1, 0, 9)
        self.holds(1, "write", 3, 5)
        self.frees(1, 0, 3)
        self.frees(1, 5, 9)
        self.frees(2, 0, 9)
        self.assertEqual(self.locks.free(1, 6, 0, 9), [])
        self.rows((3, 5, "write", 1))

    def test_the_wish_stays(self):
        self.holds(1, "write", 0, 5)
        self.holds(2, "write", 5, 9)
        self.waits(1, "write", 5, 9, [2])
        self.frees(1, 0, 9)
        self.wished(1)
        self.rows((5, 9, "write", 2))


class Rings(LocksCase):
    def refuses(self, hand, sort, low, high):
        rows = held(self.locks, FILE)
        before = wishes(self.locks)
        with self.assertRaises(Ring) as taken:
            self.take(hand, sort, low, high)
        self.assertEqual(held(self.locks, FILE), rows)
        self.assertEqual(wishes(self.locks), before)
        ring = taken.exception.ring
        self.assertIsInstance(ring, list)
        self.assertEqual(ring[0], hand)
        self.assertEqual(len(set(ring)), len(ring))
        return ring

    def test_of_two(self):
        self.holds(1, "write", 0, 5)
        self.holds(2, "write", 5, 9)
        self.waits(1, "write", 5, 9, [2])
        self.assertEqual(self.refuses(2, "read", 0, 1), [2, 1])
        self.assertEqual(waited_for(self.locks, 2), [])

    def test_of_two_that_read_and_would_write(self):
        self.holds(1, "read", 0, 9)
        self.holds(2, "read", 0, 9)
        self.waits(1, "write", 0, 9, [2])
        self.assertEqual(self.refuses(2, "write", 0, 9), [2, 1])
        self.rows((0, 9, "read", 1), (0, 9, "read", 2))
        self.leaves(2, [1])

    def test_of_many_hands(self):
        for many in (3, 4, 8, 12):
            self.locks = Locks()
            for hand in range(many):
                self.holds(hand, "write", hand, hand + 1)
            for hand in range(many - 1):
                self.waits(hand, "read", hand + 1, hand + 2, [hand + 1])
            self.assertEqual(self.refuses(many - 1, "read", 0, 1), [many - 1] + list(range(many - 1)))

    def test_across_files(self):
        self.locks.take(1, 6, "write", 0, 9)
        self.holds(2, "write", 0, 9)
        self.assertEqual(self.locks.take(2, 6, "read", 0, 1), ("waits", [1]))
        self.assertEqual(self.refuses(1, "read", 0, 1), [1, 2])

    def test_by_one_of_several_holders(self):
        self.holds(1, "read", 0, 9)
        self.holds(2, "read", 0, 9)
        self.holds(3, "read", 0, 9)
        self.holds(4, "write", 10, 12)
        self.waits(2, "read", 10, 12, [4])
        self.assertEqual(self.refuses(4, "write", 0, 9), [4, 2])
        self.waits(5, "write", 0, 9, [1, 2, 3])

    def test_by_any_of_two_ways(self):
        self.holds(1, "write", 0, 1)
        self.holds(2, "read", 1, 2)
        self.holds(3, "read", 1, 2)
        self.waits(2, "write", 0, 1, [1])
        self.waits(3, "write", 0, 1, [1])
        self.assertIn(self.refuses(1, "write", 1, 2), ([1, 2], [1, 3]))

    def test_ways_that_meet_again_are_no_ring(self):
        self.holds(1, "write", 0, 1)
        self.holds(2, "read", 1, 2)
        self.holds(3, "read", 1, 2)
        self.waits(2, "write", 0, 1, [1])
        self.waits(3, "write", 0, 1, [1])
        self.waits(4, "write", 1, 2, [2, 3])
        self.wished(2, 3, 4)

    def test_whoever_waits_for_the_asker_is_no_ring(self):
        self.holds(1, "write", 0, 5)
        self.holds(2, "write", 5, 9)
        self.waits(3, "write", 0, 5, [1])
        self.waits(1, "write", 5, 9, [2])

    def test_by_one_who_came_to_hold_behind_the_wish(self):
        self.holds(1, "read", 0, 9)
        self.holds(2, "write", 20, 30)
        self.waits(2, "write", 0, 9, [1])
        self.holds(3, "read", 0, 9)
        self.assertEqual(waited_for(self.locks, 2), [1, 3])
        self.assertEqual(self.refuses(3, "read", 20, 21), [3, 2])

    def test_the_asker_may_ask_again(self):
        self.holds(1, "write", 0, 5)
        self.holds(2, "write", 5, 9)
        self.waits(1, "write", 5, 9, [2])
        self.refuses(2, "write", 0, 5)
        self.holds(2, "write", 20, 30)
        self.frees(2, 5, 9, [1])
        self.waits(2, "write", 0, 5, [1])


class Against(unittest.TestCase):
    def test_none(self):
        for rows in ([], [(0, 9, "write", 1)], [(0, 9, "write", 1), (0, 9, "write", 1)],
                     [(0, 9, "read", 1), (0, 9, "read", 2)], [(0, 5, "write", 1), (5, 9, "write", 2)],
                     [(5, 9, "write", 1), (0, 5, "read", 2)]):
            with self.subTest(rows=rows):
                self.assertIsNone(against(rows))

    def test_two(self):
        for rows in ([(0, 9, "write", 1), (8, 12, "read", 2)], [(0, 9, "read", 1), (8, 12, "write", 2)],
                     [(3, 4, "write", 2), (0, 9, "write", 1)], [(0, 9, "write", 1), (0, 9, "write", 2)]):
            with self.subTest(rows=rows):
                self.assertEqual(against(rows), (0, 1))

    def test_first_by_i_then_k(self):
        rows = [(0, 9, "read", 1), (20, 30, "write", 2), (20, 30, "read", 3), (5, 6, "read", 4), (8, 9, "write", 5),
                (0, 1, "write", 6)]
        self.assertEqual(against(rows), (0, 4))
        self.assertEqual(against(rows[1:]), (0, 1))
        self.assertEqual(against(rows[2:]), None)
        self.assertEqual(against(rows[::-1]), (0, 5))

    def test_i_goes_ahead_of_k(self):
        rows = [(0, 3, "write", 1), (10, 12, "write", 2), (10, 12, "read", 3), (2, 3, "read", 4)]
        self.assertEqual(against(rows), (0, 3))

    def test_without_a_common_place(self):
        self.assertIsNone(against([(5, 5, "write", 1), (0, 9, "write", 2)]))
        self.assertIsNone(against([(0, 9, "write", 2), (7, 3, "write", 1)]))

    def test_rows_are_not_changed(self):
        rows = [(0, 9, "write", 1), (8, 12, "read", 2)]
        against(rows)
        self.assertEqual(rows, [(0, 9, "write", 1), (8, 12, "read", 2)])

    def test_by_plain_search(self):
        chance = random.Random(3)
        for times in range(300):
            rows = []
            for number in range(chance.randrange(6)):
                low = chance.randrange(12)
                rows.append((low, low + chance.randrange(1, 5), chance.choice(("read", "write")), chance.randrange(4)))
            found = [(i, k) for i in range(len(rows)) for k in range(i + 1, len(rows))
                     if rows[i][3] != rows[k][3] and "write" in (rows[i][2], rows[k][2])
                     and set(range(*rows[i][:2])) & set(range(*rows[k][:2]))]
            self.assertEqual(against(rows), min(found, default=None))


class Owned(LocksCase):
    def test_lists_told(self):
        self.holds(1, "write", 0, 9)
        self.waits(2, "read", 0, 9, [1])
        for tell in (lambda: held(self.locks, FILE), lambda: wishes(self.locks), lambda: waited_for(self.locks, 2)):
            before = list(tell())
            self.assertNotEqual(before, [])
            tell().clear()
            self.assertEqual(tell(), before)
            tell().append((0, 1, "read", 7))
            self.assertEqual(tell(), before)

    def test_lists_of_hands(self):
        self.holds(1, "write", 0, 9)
        answer = self.take(2, "read", 0, 9)
        answer[1].clear()
        self.assertEqual(waited_for(self.locks, 2), [1])
        told = self.locks.leave(1)
        told.append(3)
        self.rows((0, 9, "read", 2))
        self.wished()

    def test_a_ring(self):
        self.holds(1, "write", 0, 5)
        self.holds(2, "write", 5, 9)
        self.waits(1, "write", 5, 9, [2])
        for times in range(2):
            with self.assertRaises(Ring) as taken:
                self.take(2, "write", 0, 5)
            self.assertEqual(taken.exception.ring, [2, 1])
            taken.exception.ring.clear()
        self.assertEqual(waited_for(self.locks, 1), [2])


class Model:
    """Locks place by place: by (file, place) a dict of the sort by hand."""

    def __init__(self):
        self.places = {}
        self.wished = []

    def against(self, wish):
        hand, file, sort, low, high = wish
        return sorted({other for place in range(low, high) for other, held_to in
                       self.places.get((file, place), {}).items()
                       if other != hand and "write" in (sort, held_to)})

    def hold(self, wish):
        hand, file, sort, low, high = wish
        for place in range(low, high):
            self.places.setdefault((file, place), {})[hand] = sort

    def settle(self):
        hands = []
        while True:
            free = [wish for wish in self.wished if not self.against(wish)]
            if not free:
                return hands
            self.wished.remove(free[0])
            self.hold(free[0])
            hands.append(free[0][0])

    def rings(self, wish):
        """All the rings through the asker that there would be."""
        edges = {other[0]: self.against(other) for other in self.wished + [wish]}
        rings = []
        ways = [[wish[0]]]
        while ways:
            way = ways.pop()
            for hand in edges.get(way[-1], []):
                if hand == wish[0]:
                    rings.append(way)
                elif hand not in way:
                    ways.append(way + [hand])
        return rings

    def take(self, *wish):
        if wish[0] in [other[0] for other in self.wished]:
            return "waiting"
        if not self.against(wish):
            self.hold(wish)
            return ("held", self.settle())
        if self.rings(wish):
            return self.rings(wish)
        self.wished.append(wish)
        return ("waits", self.against(wish))

    def free(self, hand, file, low, high):
        for place in range(low, high):
            self.places.get((file, place), {}).pop(hand, None)
        return self.settle()

    def leave(self, hand):
        for holders in self.places.values():
            holders.pop(hand, None)
        self.wished = [wish for wish in self.wished if wish[0] != hand]
        return self.settle()

    def held(self, file):
        rows = []
        for hand in range(6):
            for sort in ("read", "write"):
                places = [place for place in range(-1, 20) if self.places.get((file, place), {}).get(hand) == sort]
                lows = [place for place in places if place - 1 not in places]
                highs = [place + 1 for place in places if place + 1 not in places]
                rows += [(low, high, sort, hand) for low, high in zip(lows, highs)]
        return sorted(rows)


class AgainstModel(unittest.TestCase):
    def test_many_steps(self):
        told = {}
        for seed in range(80):
            chance = random.Random(seed)
            locks = Locks()
            model = Model()
            for step in range(120):
                told[self.one_step(chance, locks, model)] = True
                for file in (0, 1):
                    self.assertEqual(held(locks, file), model.held(file), (seed, step))
                    self.assertIsNone(against(held(locks, file)))
                self.assertEqual(wishes(locks), model.wished, (seed, step))
                for hand in range(6):
                    waits = [model.against(wish) for wish in model.wished if wish[0] == hand]
                    self.assertEqual(waited_for(locks, hand), waits[0] if waits else [])
        self.assertLessEqual({"held", "waits", "waiting", "ring", "free", "leave", "others"}, set(told))

    def one_step(self, chance, locks, model):
        hand = chance.randrange(6)
        file = chance.randrange(2)
        low = chance.randrange(12)
        high = low + chance.randrange(1, 7)
        deed = chance.choice(("take", "take", "take", "take", "free", "leave"))
        if deed == "free":
            self.assertEqual(locks.free(hand, file, low, high), model.free(hand, file, low, high))
            return deed
        if deed == "leave":
            if chance.random() < 0.5:
                self.assertEqual(locks.leave(hand), model.leave(hand))
            return deed
        sort = chance.choice(("read", "write"))
        wanted = model.take(hand, file, sort, low, high)
        try:
            answer = locks.take(hand, file, sort, low, high)
        except Waiting:
            self.assertEqual(wanted, "waiting")
            return "waiting"
        except Ring as error:
            self.assertIn(error.ring, wanted)
            return "ring"
        self.assertEqual(answer, wanted)
        return "others" if answer[0] == "held" and answer[1] else answer[0]


if __name__ == "__main__":
    unittest.main()

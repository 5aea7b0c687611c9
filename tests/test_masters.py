import copy
import itertools
import random
import unittest

from farshelf.masters import Master, next_log

A = ("a",)
B = ("b",)
C = ("c",)


def state(master):
    return (master.number, master.many, master.term, master.of, list(master.log), master.done, master.role)


class MastersCase(unittest.TestCase):
    def is_now(self, master, term, of, log, done, role):
        self.assertEqual(state(master)[2:], (term, of, log, done, role))

    def unchanged(self, master, act, told):
        before = state(master)
        self.assertEqual(act(), told)
        self.assertEqual(state(master), before)

    def lead(self, number=0, many=3, rows=()):
        """One that leads by the voices of the masters behind it, in its first term."""
        master = Master(number, many)
        master.rise()
        other = number
        while master.role != "leads":
            other = (other + 1) % many
            self.assertEqual(master.hear(("voice", other, number, master.term, 0, ())), [])
        for row in rows:
            master.add(row)
        return master

    def follow(self, term=3, rows=(A, B), done=0, number=1, many=3):
        """One that hears, with these rows of that term."""
        master = Master(number, many)
        master.hear(("keep", 0, number, term, tuple(rows), done))
        self.is_now(master, term, term, list(rows), done, "hears")
        return master

    def stand(self, number=1, many=3, rows=(A, B)):
        """One that stands in term 4, with rows of term 3."""
        master = self.follow(3, rows, 0, number, many)
        master.rise()
        self.assertEqual(master.role, "stands")
        return master


class New(MastersCase):
    def test_fields(self):
        master = Master(2, 5)
        self.assertEqual(state(master), (2, 5, 0, 0, [], 0, "hears"))
        self.assertIsInstance(master.log, list)

    def test_two_share_nothing(self):
        one = self.lead(0, 1, [A])
        self.assertEqual(one.log, [A])
        self.assertEqual(Master(0, 1).log, [])


class Rise(MastersCase):
    def test_terms_by_rest(self):
        for many in range(1, 10):
            for number in range(many):
                master = Master(number, many)
                for start in range(0, 3 * many):
                    master.term = start
                    master.rise()
                    self.assertGreater(master.term, start)
                    self.assertLessEqual(master.term, start + many)
                    self.assertEqual(master.term % many, number)

    def test_terms_written_out(self):
        master = Master(0, 3)
        self.assertEqual([(master.rise(), master.term)[1] for times in range(3)], [3, 6, 9])
        master = Master(2, 3)
        self.assertEqual([(master.rise(), master.term)[1] for times in range(3)], [2, 5, 8])
        master = Master(1, 3)
        master.hear(("stand", 0, 1, 999999999999))
        master.rise()
        self.assertEqual(master.term, 1000000000000)

    def test_messages(self):
        self.assertEqual(Master(1, 4).rise(), [("stand", 1, 0, 1), ("stand", 1, 2, 1), ("stand", 1, 3, 1)])
        self.assertEqual(Master(0, 2).rise(), [("stand", 0, 1, 2)])

    def test_it_stands_and_the_rest_stays(self):
        master = self.follow(3, [A, B], 1)
        self.assertEqual(master.rise(), [("stand", 1, 0, 4), ("stand", 1, 2, 4)])
        self.is_now(master, 4, 3, [A, B], 1, "stands")

    def test_one_alone_leads_at_once(self):
        master = Master(0, 1)
        self.assertEqual(master.rise(), [])
        self.is_now(master, 1, 1, [], 0, "leads")
        self.assertEqual(master.add(A), [])
        self.is_now(master, 1, 1, [A], 1, "leads")
        self.assertEqual(master.rise(), [])
        self.is_now(master, 2, 2, [A], 1, "leads")

    def test_one_that_led_stands_anew_without_its_voices(self):
        master = self.lead(0, 3, [A])
        master.rise()
        self.is_now(master, 6, 3, [A], 0, "stands")
        self.assertEqual(master.hear(("voice", 1, 0, 3, 0, ())), [])
        self.assertEqual(master.role, "stands")
        self.assertEqual(master.hear(("voice", 1, 0, 6, 0, ())), [])
        self.is_now(master, 6, 6, [A], 0, "leads")

    def test_two_masters_need_both(self):
        master = Master(0, 2)
        master.rise()
        self.assertEqual(master.role, "stands")
        master.hear(("voice", 1, 0, 2, 0, ()))
        self.assertEqual(master.role, "leads")


class AddAndSend(MastersCase):
    def test_where_it_does_not_lead(self):
        for master in (Master(0, 3), self.follow(), self.stand()):
            self.unchanged(master, lambda: master.add(C), None)
            self.unchanged(master, master.send, [])

    def test_where_it_leads(self):
        master = self.lead(1, 3)
        self.assertEqual(master.send(), [("keep", 1, 0, 1, (), 0), ("keep", 1, 2, 1, (), 0)])
        self.assertEqual(master.add(A), [("keep", 1, 0, 1, (A,), 0), ("keep", 1, 2, 1, (A,), 0)])
        self.assertEqual(master.add(B), [("keep", 1, 0, 1, (A, B), 0), ("keep", 1, 2, 1, (A, B), 0)])
        self.is_now(master, 1, 1, [A, B], 0, "leads")
        self.unchanged(master, master.send, [("keep", 1, 0, 1, (A, B), 0), ("keep", 1, 2, 1, (A, B), 0)])

    def test_done_goes_along(self):
        master = self.lead(0, 3, [A, B])
        master.hear(("kept", 2, 0, 3, 2))
        self.assertEqual(master.add(C), [("keep", 0, 1, 3, (A, B, C), 2), ("keep", 0, 2, 3, (A, B, C), 2)])

    def test_done_by_what_was_told_ahead(self):
        # Others that told more than its log has till then.
        master = self.lead(0, 3, [A])
        master.hear(("kept", 2, 0, 3, 2))
        self.assertEqual(master.done, 1)
        self.assertEqual(master.add(B), [("keep", 0, 1, 3, (A, B), 2), ("keep", 0, 2, 3, (A, B), 2)])
        self.assertEqual(master.done, 2)

    def test_rows_are_a_tuple(self):
        master = self.lead(0, 3, [A])
        self.assertIsInstance(master.send()[0][4], tuple)
        self.assertIsInstance(master.hear(("stand", 1, 0, 4))[0][5], tuple)


class Fall(MastersCase):
    def test_each_role(self):
        for master in (self.follow(3, [A, B], 2), self.stand(), self.lead(0, 1, [A, B])):
            term, of = master.term, master.of
            self.assertEqual(master.fall(), [])
            self.is_now(master, term, of, [A, B], 0, "hears")
            self.unchanged(master, lambda: master.add(C), None)

    def test_voices_behind_a_fall_are_none(self):
        master = self.stand()
        master.fall()
        self.unchanged(master, lambda: master.hear(("voice", 0, 1, 4, 3, (A, B))), [])
        self.unchanged(master, lambda: master.hear(("kept", 0, 1, 4, 2)), [])

    def test_it_hears_on(self):
        master = self.follow(3, [A, B], 2)
        master.fall()
        self.assertEqual(master.hear(("keep", 0, 1, 3, (A,), 1)), [("kept", 1, 0, 3, 2)])
        self.is_now(master, 3, 3, [A, B], 1, "hears")
        master.fall()
        self.assertEqual(master.hear(("stand", 2, 1, 5)), [("voice", 1, 2, 5, 3, (A, B))])


class HearStand(MastersCase):
    def test_lesser_and_equal_terms(self):
        for master in (self.follow(3), self.stand(), self.lead(0, 3, [A])):
            for term in (0, 1, master.term - 1, master.term):
                self.unchanged(master, lambda: master.hear(("stand", 2, master.number, term)), [])

    def test_greater_terms_in_each_role(self):
        for master in (self.follow(3, [A, B], 1), self.stand(), self.lead(0, 1, [A, B])):
            of, done = master.of, master.done
            self.assertEqual(master.hear(("stand", 2, master.number, 8)), [("voice", master.number, 2, 8, of, (A, B))])
            self.is_now(master, 8, of, [A, B], done, "hears")
            self.unchanged(master, lambda: master.hear(("stand", 2, master.number, 8)), [])
        self.assertEqual(Master(0, 3).hear(("stand", 1, 0, 1)), [("voice", 0, 1, 1, 0, ())])


class HearVoice(MastersCase):
    def test_other_terms(self):
        master = self.stand()
        for term in (3, 5, 7, 1):
            self.unchanged(master, lambda: master.hear(("voice", 2, 1, term, 3, (A, B, C))), [])

    def test_where_it_does_not_stand(self):
        for master in (self.follow(4), self.lead(1, 3, [A])):
            self.unchanged(master, lambda: master.hear(("voice", 2, 1, master.term, 9, (A, B, C))), [])

    def test_more_than_half(self):
        for many in range(2, 10):
            master = Master(0, many)
            master.rise()
            for other in range(1, many):
                self.assertEqual(master.role, "leads" if 2 * other > many else "stands")
                self.assertEqual(master.hear(("voice", other, 0, many, 0, ())), [])
            self.assertEqual(master.role, "leads")

    def test_one_voice_told_often_is_one(self):
        master = Master(0, 5)
        master.rise()
        for times in range(4):
            master.hear(("voice", 3, 0, 5, 0, ()))
        self.assertEqual(master.role, "stands")
        master.hear(("voice", 4, 0, 5, 0, ()))
        self.assertEqual(master.role, "leads")

    def test_the_log_of_the_greatest(self):
        # Its own is of term 3 with two rows.
        for of, rows, log in ((2, (C, C, C), [A, B]), (3, (A,), [A, B]), (3, (A, B, C), [A, B, C]), (4, (), []),
                              (4, (C,), [C]), (3, (A, B), [A, B])):
            with self.subTest(of=of, rows=rows):
                master = self.stand()
                self.assertEqual(master.hear(("voice", 0, 1, 4, of, rows)), [])
                self.is_now(master, 4, 4, log, 0, "leads")

    def test_the_greatest_of_several(self):
        master = self.stand(1, 5)
        master.hear(("voice", 0, 1, 6, 3, (A, B, C)))
        master.hear(("voice", 4, 1, 6, 2, (C, C, C, C)))
        self.is_now(master, 6, 6, [A, B, C], 0, "leads")

    def test_of_each_the_last(self):
        master = self.stand(1, 5)
        master.hear(("voice", 0, 1, 6, 5, (C, C, C)))
        master.hear(("voice", 0, 1, 6, 3, (A,)))
        master.hear(("voice", 2, 1, 6, 2, (C,)))
        self.is_now(master, 6, 6, [A, B], 0, "leads")

    def test_done_stays(self):
        master = self.follow(3, [A, B], 2)
        master.rise()
        master.hear(("voice", 0, 1, 4, 3, (A, B, C)))
        self.is_now(master, 4, 4, [A, B, C], 2, "leads")


class HearKeep(MastersCase):
    def test_lesser_terms(self):
        for master in (self.follow(3), self.stand(), self.lead(0, 3, [A])):
            for term in (0, 1, master.term - 1):
                self.unchanged(master, lambda: master.hear(("keep", 2, master.number, term, (A, B, C), 3)), [])

    def test_of_its_own_term(self):
        for rows, log in (((), [A, B]), ((C,), [A, B]), ((C, C), [A, B]), ((A, B, C), [A, B, C]),
                          ((C, C, C), [C, C, C])):
            with self.subTest(rows=rows):
                master = self.follow(3, [A, B])
                self.assertEqual(master.hear(("keep", 0, 1, 3, rows, 0)), [("kept", 1, 0, 3, len(log))])
                self.is_now(master, 3, 3, log, 0, "hears")

    def test_of_a_newer_term(self):
        for rows in ((), (C,), (C, C), (A, B, C)):
            with self.subTest(rows=rows):
                master = self.follow(3, [A, B])
                self.assertEqual(master.hear(("keep", 2, 1, 5, rows, 0)), [("kept", 1, 2, 5, len(rows))])
                self.is_now(master, 5, 5, list(rows), 0, "hears")

    def test_its_term_is_newer_than_its_rows(self):
        master = self.follow(3, [A, B])
        master.hear(("stand", 2, 1, 5))
        self.unchanged(master, lambda: master.hear(("keep", 0, 1, 3, (A, B, C), 0)), [])
        self.assertEqual(master.hear(("keep", 2, 1, 5, (C,), 0)), [("kept", 1, 2, 5, 1)])
        self.is_now(master, 5, 5, [C], 0, "hears")

    def test_in_each_role(self):
        for master in (self.stand(), self.lead(1, 3, [A, B])):
            for term in (master.term, master.term + 1):
                one = copy.deepcopy(master)
                self.assertEqual(one.hear(("keep", 2, 1, term, (A, B, C), 1)), [("kept", 1, 2, term, 3)])
                self.is_now(one, term, term, [A, B, C], 1, "hears")

    def test_done_is_the_lesser_of_message_and_log(self):
        for before, told, wanted in ((0, 0, 0), (0, 1, 1), (0, 2, 2), (0, 3, 2), (0, 9, 2), (1, 0, 1), (2, 1, 2),
                                     (1, 2, 2)):
            with self.subTest(before=before, told=told):
                master = self.follow(3, [A, B], before)
                master.hear(("keep", 0, 1, 3, (A,), told))
                self.assertEqual(master.done, wanted)
        master = self.follow(3, [A, B], 1)
        master.hear(("keep", 0, 1, 3, (A, B, C), 3))
        self.assertEqual(master.done, 3)


class HearKept(MastersCase):
    def test_where_it_does_not_lead_or_by_another_term(self):
        for master in (self.follow(4), self.stand()):
            self.unchanged(master, lambda: master.hear(("kept", 2, 1, master.term, 2)), [])
        master = self.lead(0, 3, [A, B])
        for term in (2, 4, 6, 0):
            self.unchanged(master, lambda: master.hear(("kept", 2, 0, term, 2)), [])

    def test_more_than_half(self):
        master = self.lead(0, 5, [A, B, C])
        for other, size, done in ((1, 3, 0), (2, 1, 1), (3, 2, 2), (4, 1, 2), (2, 3, 3), (3, 3, 3)):
            self.assertEqual(master.hear(("kept", other, 0, 5, size)), [])
            self.is_now(master, 5, 5, [A, B, C], done, "leads")

    def test_even_numbers_of_masters(self):
        master = self.lead(0, 4, [A, B])
        master.hear(("kept", 1, 0, 4, 2))
        self.assertEqual(master.done, 0)
        master.hear(("kept", 3, 0, 4, 1))
        self.assertEqual(master.done, 1)
        master = self.lead(0, 2, [A, B])
        self.assertEqual(master.done, 0)
        master.hear(("kept", 1, 0, 2, 1))
        self.assertEqual(master.done, 1)

    def test_the_greatest_told(self):
        master = self.lead(0, 5, [A, B])
        for size in (2, 0, 1):
            master.hear(("kept", 1, 0, 5, size))
        master.hear(("kept", 2, 0, 5, 2))
        self.assertEqual(master.done, 2)

    def test_told_in_an_earlier_term_is_not_counted(self):
        master = self.lead(0, 3, [A, B])
        master.hear(("kept", 1, 0, 3, 1))
        self.assertEqual(master.done, 1)
        master.rise()
        master.hear(("voice", 2, 0, 6, 0, ()))
        self.is_now(master, 6, 6, [A, B], 1, "leads")
        master.add(C)
        self.assertEqual(master.done, 1)
        master.hear(("kept", 2, 0, 6, 3))
        self.assertEqual(master.done, 3)

    def test_sizes_of_an_earlier_term_are_gone(self):
        master = self.lead(0, 5, [A, B])
        master.hear(("kept", 1, 0, 5, 2))
        master.rise()
        for other in (3, 4):
            master.hear(("voice", other, 0, 10, 0, ()))
        self.is_now(master, 10, 10, [A, B], 0, "leads")
        master.hear(("kept", 2, 0, 10, 2))
        self.assertEqual(master.done, 0)
        master.hear(("kept", 1, 0, 10, 1))
        self.assertEqual(master.done, 1)

    def test_it_never_falls(self):
        master = self.follow(3, [A, B], 2)
        master.rise()
        master.hear(("voice", 0, 1, 4, 3, (A, B)))
        master.hear(("kept", 0, 1, 4, 1))
        self.assertEqual(master.done, 2)


class NextLog(MastersCase):
    def masters(self):
        return [self.follow(3, [A, B], 0, 1), self.follow(5, [C], 0, 2), self.follow(3, [A, B, C], 0, 1), Master(0, 3)]

    def test_of_some_places(self):
        masters = self.masters()
        for some, log in (((0,), [A, B]), ([0, 2], [A, B, C]), ((2, 0), [A, B, C]), ((0, 1), [C]), ((3,), []),
                          ([3, 0], [A, B]), ((0, 1, 2, 3), [C]), ((3, 1), [C])):
            with self.subTest(some=some):
                self.assertEqual(next_log(masters, some), log)
                self.assertIsInstance(next_log(masters, some), list)

    def test_nothing_is_changed(self):
        masters = self.masters()
        before = [state(master) for master in masters]
        next_log(masters, (0, 2)).append(A)
        self.assertEqual([state(master) for master in masters], before)


class Owned(MastersCase):
    """Rows are any tuples, with lists within too."""

    def test_rows_handed_in(self):
        master = self.lead(0, 3)
        inner = [1]
        master.add(("x", inner))
        inner.append(2)
        self.assertEqual(master.log, [("x", [1])])
        master.add(("y", {"k": [1]}))
        self.assertEqual(master.log, [("x", [1]), ("y", {"k": [1]})])

    def test_messages_told(self):
        master = self.lead(0, 3)
        for message in master.add(("x", [1], {"k": [2]})) + master.send():
            message[4][0][1].append(7)
            message[4][0][2]["k"].append(7)
        self.assertEqual(master.log, [("x", [1], {"k": [2]})])
        master.send().clear()
        told = master.hear(("stand", 1, 0, 4))
        told[0][5][0][1].append(7)
        self.assertEqual(master.log, [("x", [1], {"k": [2]})])
        next_log([master], [0])[0][1].append(7)
        self.assertEqual(master.log, [("x", [1], {"k": [2]})])

    def test_messages_handed_in(self):
        inner = [1]
        master = Master(1, 3)
        master.hear(("keep", 0, 1, 3, (("x", inner),), 0))
        inner.append(2)
        self.assertEqual(master.log, [("x", [1])])
        later = [3]
        master.hear(("keep", 0, 1, 3, (("x", [1]), ("y", later)), 0))
        later.append(4)
        self.assertEqual(master.log, [("x", [1]), ("y", [3])])
        master.hear(("stand", 2, 1, 5))[0][5][1][1].append(9)
        self.assertEqual(master.log, [("x", [1]), ("y", [3])])
        master = Master(1, 5)
        master.rise()
        master.hear(("voice", 0, 1, 1, 0, (("x", later), ("z",))))
        later.append(5)
        master.hear(("voice", 2, 1, 1, 0, ()))
        self.assertEqual(master.log, [("x", [3, 4]), ("z",)])
        master.add(("w",))[0][4][0][1].append(9)
        self.assertEqual(master.log, [("x", [3, 4]), ("z",), ("w",)])


class Chaos(unittest.TestCase):
    """Messages lost, twice, late and in any order; masters that fall and wake."""

    def run_masters(self, seed, many, steps):
        chance = random.Random(seed)
        masters = [Master(number, many) for number in range(many)]
        fallen = [False] * many
        way = []
        written = []
        leaders = {}
        for count in range(steps):
            kind = chance.random()
            some = chance.randrange(many)
            if way and kind < 0.7:
                message = way[chance.choice((0, -1, chance.randrange(len(way))))]
                if chance.random() < 0.85:
                    way.remove(message)
                if chance.random() < 0.95 and not fallen[message[2]]:
                    way.extend(masters[message[2]].hear(message))
            elif fallen[some]:
                fallen[some] = chance.random() < 0.5
            elif chance.random() < 0.05:
                fallen[some] = True
                self.assertEqual(masters[some].fall(), [])
            else:
                adding = [lambda: masters[some].add(("row", count)) or []] * 6
                way.extend(chance.choice([masters[some].rise] + [masters[some].send] * 2 + adding)())
            while len(way) > 40:
                way.pop(chance.randrange(len(way)))
            written = self.hold(masters, written, leaders)
        return len(written), len(leaders)

    def hold(self, masters, written, leaders):
        for master in masters:
            self.assertLessEqual(master.done, len(master.log))
            known = master.log[:master.done]
            self.assertEqual(known[:len(written)], written[:len(known)])
            if len(known) > len(written):
                written = known
            if master.role == "leads":
                self.assertEqual(leaders.setdefault(master.term, master.number), master.number)
        for some in itertools.combinations(range(len(masters)), len(masters) // 2 + 1):
            self.assertEqual(next_log(masters, some)[:len(written)], written)
        return written

    def test_what_is_done_stays(self):
        for many in range(1, 8):
            totals = [self.run_masters(seed, many, 500) for seed in range(20)]
            self.assertGreater(sum(total[0] for total in totals), 60, many)
            self.assertGreater(sum(total[1] for total in totals), 60, many)

    def test_long_logs(self):
        masters = [Master(number, 9) for number in range(9)]
        way = masters[0].rise()
        for count in range(1500):
            while way:
                message = way.pop()
                way.extend(masters[message[2]].hear(message))
            way.extend(masters[0].add(("ask", count, 1, 1, count, ("make", "/a", "x"))))
        for message in way:
            masters[message[2]].hear(message)
        self.assertEqual([len(master.log) for master in masters], [1500] * 9)


if __name__ == "__main__":
    unittest.main()

import unittest

from tests.helper import (
    FAR, begin, deliver, do, fields, fill, giveup, issue, known_at_1, last, lose, pass_on, pay, plain, present, query,
    told, world_after)

READY = known_at_1() + [fill(1, 130)]
CLOSED = READY + [pay(1, 10), query(0, 10), deliver(2), deliver(3)]


class Giveup(unittest.TestCase):
    def test_answers_the_message_of_kind_5(self):
        self.assertEqual(told(*READY, giveup(1, 10), deliver(2))[-2:], [[2], [0, 1, -1]])
        world = world_after(*READY, giveup(1, 10))
        self.assertEqual(fields(world.messages[2]), (5, 10, 1, 1, 0, 0, 0, False))

    def test_it_is_written_down(self):
        before = len(world_after(*READY).offices[1].journal)
        self.assertEqual(len(world_after(*READY, giveup(1, 10)).offices[1].journal), before + 1)

    def test_never_paid_by_it(self):
        self.assertEqual(told(*READY, giveup(1, 10), pay(1, 10), giveup(1, 10), deliver(1), pay(1, 10))[-4:],
                         [[-3], [-3], [0, 0, -1], [-3]])

    def test_before_and_behind_the_till(self):
        for passed in (0, 59, 60, 61, 5000):
            self.assertEqual(last(*READY, pass_on(passed), giveup(1, 10)), [2])

    def test_of_the_second_grant(self):
        line = READY + [giveup(1, 10), deliver(2), present(1, 10), deliver(3), deliver(4)]
        world = world_after(*line, giveup(1, 10))
        self.assertEqual(fields(world.messages[5]), (5, 10, 2, 1, 0, 0, 0, False))
        self.assertEqual(do(world, deliver(2)), [0, 0, -1])
        self.assertEqual(do(world, deliver(5)), [0, 1, -1])

    def test_at_the_orders_own_office(self):
        line = [begin(), issue(0), present(0, 10), deliver(0), deliver(1)]
        self.assertEqual(told(*line, giveup(0, 10), deliver(2), present(1, 10), deliver(3))[-4:],
                         [[2], [0, 1, -1], [3], [1, 1, 4]])

    def test_while_the_orders_office_is_down(self):
        self.assertEqual(told(*READY, issue(0, cut=3), giveup(1, 10), deliver(2))[-2:], [[2], [-6]])

    def test_not_payable(self):
        for call in (giveup(0, 10), giveup(2, 10), giveup(1, 20), giveup(1, 0), giveup(1, 100000)):
            self.assertEqual(last(*READY, call), [-3])
        self.assertEqual(last(begin(), issue(0), present(1, 10), deliver(0), giveup(1, 10)), [-3])
        self.assertEqual(last(*READY, pay(1, 10), giveup(1, 10)), [-3])

    def test_edges_and_the_order_of_refusals(self):
        for p in (-FAR, -1, 3, FAR):
            self.assertEqual(last(*READY, giveup(p, -1)), [-5])
        self.assertEqual(last(*READY, issue(1, cut=3), giveup(1, -1)), [-6])
        self.assertEqual(last(*READY, issue(1, cut=3), giveup(1, 20)), [-6])
        for n in (-FAR, -1, 100001, FAR):
            self.assertEqual(last(*READY, giveup(1, n)), [-12])
        many = READY + [present(1, 10)] * 298
        self.assertEqual(last(*many, giveup(1, -1)), [-12])
        self.assertEqual(last(*many, giveup(1, 20)), [-9])
        self.assertEqual(told(*many, giveup(1, 10), pay(1, 10))[-2:], [[-9], [100]])
        self.assertEqual(last(*many[:-1], giveup(1, 10)), [299])

    def test_a_refusal_changes_nothing(self):
        world = world_after(*READY, issue(2, cut=1))
        before = plain(world)
        for call in (giveup(3, 10), giveup(2, 10), giveup(1, -1), giveup(1, 20), giveup(0, 10)):
            self.assertLess(do(world, call)[0], 0)
        self.assertEqual(plain(world), before)


class Query(unittest.TestCase):
    def test_answers_the_message_of_kind_6(self):
        world = world_after(*READY)
        self.assertEqual(do(world, query(0, 10)), [2])
        self.assertEqual(fields(world.messages[2]), (6, 10, 1, 0, 1, 0, 0, False))
        self.assertEqual(do(world, query(0, 10)), [3])

    def test_to_whom_the_last_grant_is(self):
        world = world_after(*READY, giveup(1, 10), deliver(2), present(2, 10), deliver(3), query(0, 10))
        self.assertEqual(fields(world.messages[5]), (6, 10, 2, 0, 2, 0, 0, False))

    def test_writes_nothing(self):
        world = world_after(*READY)
        before = plain(world.offices)
        do(world, query(0, 10))
        self.assertEqual(plain(world.offices), before)

    def test_no_grant_stands(self):
        self.assertEqual(last(begin(), issue(0), query(0, 10)), [-3])
        self.assertEqual(last(begin(), query(0, 10)), [-3])
        self.assertEqual(last(begin(), issue(0), present(1, 10), query(0, 10)), [-3])
        self.assertEqual(told(*READY, giveup(1, 10), query(0, 10), deliver(2), query(0, 10))[-3:],
                         [[3], [0, 1, -1], [-3]])

    def test_at_another_office(self):
        for call in (query(1, 10), query(2, 10), query(0, 20), query(0, 11), query(0, 0), query(0, 100000)):
            self.assertEqual(last(*READY, call), [-3])

    def test_closed(self):
        self.assertEqual(last(*CLOSED, query(0, 10)), [-3])

    def test_paid_but_not_known_to_be(self):
        self.assertEqual(last(*READY, pay(1, 10), query(0, 10)), [2])
        self.assertEqual(last(*CLOSED[:-1], query(0, 10)), [4])

    def test_to_an_office_that_is_down(self):
        self.assertEqual(told(*READY, pay(1, 10, 1), query(0, 10), deliver(2))[-2:], [[2], [-6]])

    def test_when_out_of_date(self):
        self.assertEqual(last(*READY, pass_on(100000), query(0, 10)), [2])

    def test_edges_and_the_order_of_refusals(self):
        for o in (-FAR, -1, 3, FAR):
            self.assertEqual(last(*READY, query(o, -1)), [-5])
        self.assertEqual(last(*READY, issue(0, cut=3), query(0, -1)), [-6])
        self.assertEqual(last(*READY, issue(0, cut=3), query(0, 20)), [-6])
        for n in (-FAR, -1, 100001, FAR):
            self.assertEqual(last(*READY, query(0, n)), [-12])
        many = READY + [present(1, 10)] * 298
        self.assertEqual(last(*many, query(0, -1)), [-12])
        self.assertEqual(last(*many, query(0, 20)), [-9])
        self.assertEqual(last(*many, query(0, 10)), [-9])
        self.assertEqual(last(*many[:-1], query(0, 10)), [299])

    def test_a_refusal_changes_nothing(self):
        world = world_after(*CLOSED, issue(2, cut=1))
        before = plain(world)
        for call in (query(3, 10), query(2, 10), query(0, -1), query(0, 20), query(0, 10), query(1, 10)):
            self.assertLess(do(world, call)[0], 0)
        self.assertEqual(plain(world), before)


class LeasesOver(unittest.TestCase):
    """Once all leases are over by the asked offices' clocks, asking leaves no grant standing but of closed orders."""

    def test_paid_known_unknown_and_given_up(self):
        line = [begin(2, 0, 1000, 60)] + [issue(0) for number in range(4)] + [fill(1, 100)]
        line += [present(1, n) for n in (10, 20, 30, 40)] + [deliver(m) for m in range(4)]
        line += [deliver(4), deliver(5), deliver(6), pay(1, 10), giveup(1, 20), lose(8), pass_on(60)]
        line += [query(0, n) for n in (10, 20, 30, 40)] + [deliver(m) for m in range(9, 13)]
        line += [deliver(m) for m in range(13, 17)]
        found = told(*line, query(0, 10), query(0, 20), query(0, 30), query(0, 40))
        self.assertEqual(found[-12:-8], [[1, 0, 13], [1, 0, 14], [1, 1, 15], [1, 1, 16]])
        self.assertEqual(found[-8:-4], [[0, 1, -1]] * 4)
        self.assertEqual(found[-4:], [[-3]] * 4)
        orders = world_after(*line).offices[0].orders
        self.assertEqual([orders[n].closed for n in (10, 20, 30, 40)], [True, False, False, False])
        self.assertEqual([orders[n].standing() is None for n in (10, 20, 30, 40)], [False, True, True, True])


if __name__ == "__main__":
    unittest.main()

import unittest

from tests.helper import (
    FAR, begin, claim, clock, closed_by_1, count, cut, deliver, do, fill, given_back_by_1, giveup, granted_to_1, issue,
    known_at_1, last, lose, msg, order, order_row, paid_at_1, pass_on, pay, plain, present, query, refund, sums, tell,
    told, world_after)

GIVEN_UP = known_at_1() + [giveup(1, 10)]
NEVER_KNOWN = granted_to_1() + [query(0, 10), deliver(2)]


class Tell(unittest.TestCase):
    def test_paid(self):
        self.assertEqual(told(*paid_at_1(), tell(1, 10, 1), msg(2), tell(1, 10, 1))[-3:],
                         [[2, 4], [4, 10, 1, 1, 0, 0, 0, 0], [3, 4]])

    def test_given_up(self):
        self.assertEqual(told(*GIVEN_UP, tell(1, 10, 1), msg(3), tell(1, 10, 1))[-3:],
                         [[3, 5], [5, 10, 1, 1, 0, 0, 0, 0], [4, 5]])

    def test_given_up_without_being_known(self):
        self.assertEqual(told(*NEVER_KNOWN, tell(1, 10, 1), msg(4), deliver(4), order(10), claim(1, 10))[-5:],
                         [[4, 5], [5, 10, 1, 1, 0, 0, 0, 0], [0, 1, -1], order_row(1, 1), [0]])

    def test_neither(self):
        for line in (known_at_1(), granted_to_1(), [begin(), issue(0)], [begin()]):
            self.assertEqual(last(*line, tell(1, 10, 1)), [-3])
        self.assertEqual(last(*known_at_1(), pass_on(100), tell(1, 10, 1)), [-3])

    def test_only_of_that_grant_that_order_and_that_office(self):
        for line in (paid_at_1(), GIVEN_UP, NEVER_KNOWN):
            for call in (tell(1, 10, 0), tell(1, 10, 2), tell(1, 20, 1), tell(1, 11, 1), tell(0, 10, 1), tell(2, 10, 1),
                         tell(1, 0, 1), tell(1, 100000, 1), tell(1, 10, 1000)):
                self.assertEqual(last(*line, call), [-3])

    def test_of_each_of_two_grants(self):
        line = given_back_by_1() + [present(1, 10), deliver(3), deliver(4), fill(1, 100)]
        self.assertEqual(told(*line, tell(1, 10, 2), pay(1, 10), tell(1, 10, 1), tell(1, 10, 2), msg(5), msg(6))[-6:],
                         [[-3], [100], [5, 5], [6, 4], [5, 10, 1, 1, 0, 0, 0, 0], [4, 10, 2, 1, 0, 0, 0, 0]])

    def test_at_the_orders_own_office(self):
        line = [begin(), issue(0), present(0, 10), deliver(0), deliver(1), pay(0, 10)]
        self.assertEqual(told(*line, tell(0, 10, 1), msg(2), deliver(2), order(10))[-4:],
                         [[2, 4], [4, 10, 1, 0, 0, 0, 0, 0], [0, 1, -1], order_row(3, 1, 0, 1, 60)])

    def test_an_act_counts_only_when_it_was_done(self):
        for at, behind in ((0, [2, 4]), (1, [-3]), (2, [2, 4]), (3, [-3])):
            self.assertEqual(told(*paid_at_1(at), count(1), tell(1, 10))[-1], behind)

    def test_long_afterwards_and_while_the_orders_office_is_down(self):
        self.assertEqual(last(*paid_at_1(), pass_on(1000000), clock(1, 100000), tell(1, 10)), [2, 4])
        self.assertEqual(told(*paid_at_1(), cut(0), tell(1, 10), deliver(2), count(0), deliver(2))[-4:],
                         [[2, 4], [-6], [0, 105, 105], [0, 1, -1]])

    def test_of_a_closed_order_and_a_grant_given_back(self):
        self.assertEqual(told(*closed_by_1(), tell(1, 10), deliver(3))[-2:], [[3, 4], [0, 0, -1]])
        self.assertEqual(told(*given_back_by_1(), tell(1, 10), deliver(3))[-2:], [[3, 5], [0, 0, -1]])

    def test_writes_nothing(self):
        for line in (paid_at_1(), GIVEN_UP, NEVER_KNOWN):
            world = world_after(*line)
            before = plain(world.offices)
            self.assertEqual(do(world, tell(1, 10))[0], len(world.messages) - 1)
            self.assertEqual(plain(world.offices), before)


class ItsMessage(unittest.TestCase):
    def test_paid_delivered_and_twice(self):
        self.assertEqual(told(*paid_at_1(), order(10), tell(1, 10), order(10), deliver(2), order(10), deliver(2))[-6:],
                         [order_row(2, 1, 1, 1, 60), [2, 4], order_row(2, 1, 1, 1, 60), [0, 1, -1],
                          order_row(3, 1, 1, 1, 60), [0, 0, -1]])

    def test_given_up_delivered_and_twice(self):
        self.assertEqual(told(*GIVEN_UP, tell(1, 10), deliver(3), order(10), deliver(3), deliver(2))[-5:],
                         [[3, 5], [0, 1, -1], order_row(1, 1), [0, 0, -1], [0, 0, -1]])

    def test_two_of_a_kind(self):
        self.assertEqual(told(*paid_at_1(), tell(1, 10), tell(1, 10), deliver(3), deliver(2))[-2:],
                         [[0, 1, -1], [0, 0, -1]])

    def test_lost(self):
        self.assertEqual(told(*paid_at_1(), tell(1, 10), lose(2), deliver(2), order(10), tell(1, 10), deliver(3))[-5:],
                         [[0], [-4], order_row(2, 1, 1, 1, 60), [3, 4], [0, 1, -1]])

    def test_late(self):
        self.assertEqual(told(*paid_at_1(), tell(1, 10), pass_on(5000), deliver(2), order(10))[-2:],
                         [[0, 1, -1], order_row(3, 1, 1, 1, 60)])

    def test_given_up_but_another_grant_was_made_to_another(self):
        line = given_back_by_1() + [tell(1, 10), present(2, 10), deliver(4)]
        self.assertEqual(told(*line, deliver(3), order(10))[-2:], [[0, 0, -1], order_row(2, 2, 2, 2, 60)])

    def test_given_up_but_another_grant_was_made_to_the_same(self):
        line = given_back_by_1() + [tell(1, 10), pass_on(5), present(1, 10), deliver(4), deliver(5), fill(1, 100)]
        self.assertEqual(told(*line, deliver(3), order(10), pay(1, 10), deliver(3), deliver(2), order(10))[-6:],
                         [[0, 0, -1], order_row(2, 2, 1, 2, 65), [100], [0, 0, -1], [0, 0, -1],
                          order_row(2, 2, 1, 2, 65)])

    def test_given_up_but_it_was_refunded(self):
        self.assertEqual(told(*given_back_by_1(), tell(1, 10), refund(0, 10), deliver(3), order(10))[-2:],
                         [[0, 0, -1], order_row(4, 1)])


class Refusals(unittest.TestCase):
    def test_edges_of_each_number(self):
        for p in (-FAR, -1, 3, FAR):
            self.assertEqual(last(*paid_at_1(), tell(p, 10)), [-5])
        for n in (-FAR, -1, 100001, FAR):
            self.assertEqual(last(*paid_at_1(), tell(1, n)), [-12])
        for g in (-FAR, -1, 1001, FAR):
            self.assertEqual(last(*paid_at_1(), tell(1, 10, g)), [-12])

    def test_no_office_of_that_order(self):
        for n in (3, 13, 19, 99999):
            self.assertEqual(last(*paid_at_1(), tell(1, n)), [-5])
        self.assertEqual(last(begin(4), tell(1, 13)), [-3])

    def test_three_hundred_messages(self):
        many = paid_at_1() + [present(1, 10)] * 298
        self.assertEqual(told(*many[:-1], tell(1, 10), tell(1, 10))[-2:], [[299, 4], [-9]])
        self.assertEqual(told(*many, tell(1, 10), sums())[-2:], [[-9], [135, 130, 105, 100, 0, 300]])

    def test_the_order_of_refusals(self):
        many = paid_at_1() + [present(1, 10)] * 298
        self.assertEqual(last(*many, tell(3, -1, -1)), [-5])
        self.assertEqual(last(*many, cut(1), tell(1, -1, -1)), [-6])
        self.assertEqual(last(*many, cut(1), tell(1, 13, 1)), [-6])
        self.assertEqual(last(*many, cut(1), tell(1, 10, 1)), [-6])
        self.assertEqual(last(*many, tell(1, 100003, 1)), [-12])
        self.assertEqual(last(*many, tell(1, 13, 1001)), [-12])
        self.assertEqual(last(*many, tell(1, 13, 1)), [-5])
        self.assertEqual(last(*many, tell(1, 10, 2)), [-9])

    def test_a_refusal_changes_nothing(self):
        world = world_after(*paid_at_1(), cut(2))
        before = plain(world)
        for call in (tell(3, 10), tell(2, 10), tell(1, -1), tell(1, 10, -1), tell(1, 13), tell(1, 10, 2), tell(1, 20),
                     tell(0, 10, 1)):
            self.assertLess(do(world, call)[0], 0)
        self.assertEqual(plain(world), before)


if __name__ == "__main__":
    unittest.main()

import unittest

from tests.helper import (
    FAR, begin, claim, clock, closed_by_1, count, cut, deliver, do, fill, given_back_by_1, giveup, go_round,
    granted_to_1, issue, known_at_1, last, msg, office, order, order_row, paid_at_1, pass_on, pay, plain, present,
    query, refund, sums, tell, told, world_after)

# Office 0 has 5 coins left, and its own order 10 of 100 coins is open.
SHORT = [begin(), issue(0), issue(1), present(0, 11), deliver(0), deliver(1), pay(0, 11)]


class Refund(unittest.TestCase):
    def test_answers_the_coins_without_the_fee(self):
        self.assertEqual(told(begin(fee=5), issue(0, 100), refund(0, 10), office(0), order(10), sums())[2:],
                         [[100], [1, 4, 5, 5, 0, 4, 1, 10], order_row(4, 0), [5, 0, 105, 0, 100, 0]])

    def test_of_several_orders(self):
        line = [begin(2, 1), issue(0, 10), issue(1, 20), issue(0, 30), issue(1, 40)]
        self.assertEqual(told(*line, refund(0, 20), refund(1, 11), office(0), office(1), order(10), order(20), order(11),
                              sums())[5:],
                         [[30], [20], [1, 4, 12, 12, 0, 6, 2, 10, 20], [1, 4, 42, 42, 0, 6, 2, 11, 21],
                          order_row(1, 0, coins=10), order_row(4, 0, coins=30), order_row(4, 0, coins=20),
                          [54, 0, 104, 0, 50, 0]])

    def test_once_only(self):
        self.assertEqual(told(begin(), issue(0), refund(0, 10), fill(0, 500), refund(0, 10), refund(0, 10, 3))[-2:],
                         [[-4], [-4]])

    def test_before_at_and_behind_its_time(self):
        for passed in (0, 999, 1000, 100000):
            self.assertEqual(last(begin(), issue(0), pass_on(passed), refund(0, 10)), [100])

    def test_then_it_is_granted_to_nobody(self):
        line = [begin(), issue(0), present(1, 10), refund(0, 10), deliver(0)]
        self.assertEqual(told(*line, msg(1), order(10), query(0, 10), go_round())[-5:],
                         [[1, 0, 1], [3, 10, 0, 0, 1, 0, 0, 0], order_row(4, 0), [-3], [0]])

    def test_when_a_grant_was_given_back(self):
        self.assertEqual(told(*given_back_by_1(), refund(0, 10), order(10), deliver(1), pay(1, 10))[-4:],
                         [[100], order_row(4, 1), [0, 0, -1], [-3]])

    def test_a_late_message_of_a_grant_that_was_never_known(self):
        line = granted_to_1() + [fill(1, 100), go_round(), refund(0, 10)]
        self.assertEqual(told(*line, deliver(1), pay(1, 10), claim(1, 10))[-4:], [[100], [0, 0, -1], [-3], [0]])

    def test_nothing_is_sent(self):
        for at in (0, 1, 2, 3):
            self.assertEqual(told(begin(), issue(0), refund(0, 10, at), present(1, 10))[2:], [[100], [0]])


class Refusals(unittest.TestCase):
    def test_no_such_office(self):
        for o in (-FAR, -1, 3, FAR):
            self.assertEqual(last(begin(), issue(0), refund(o, 10)), [-5])

    def test_down(self):
        self.assertEqual(last(begin(), issue(0), cut(0), refund(0, 10)), [-6])

    def test_both_edges_of_the_number(self):
        for n in (-FAR, -1, 100001, FAR):
            self.assertEqual(last(begin(), issue(0), refund(0, n)), [-12])
        for n in (0, 100000):
            self.assertEqual(last(begin(), issue(0), refund(0, n)), [-3])

    def test_both_edges_of_the_cut(self):
        for at in (-FAR, -1, 4, FAR):
            self.assertEqual(told(begin(), issue(0), refund(0, 10, at), refund(0, 10))[2:], [[-12], [100]])

    def test_not_issued_there(self):
        line = [begin(), issue(0), issue(1, cut=1), issue(2, cut=3), count(1), count(2), fill(1, 500), fill(2, 500)]
        for call in (refund(0, 20), refund(0, 11), refund(1, 10), refund(1, 11), refund(2, 12), refund(0, 19)):
            self.assertEqual(last(*line, call), [-3])
        self.assertEqual(last(begin(), issue(1, cut=2), count(1), refund(1, 11)), [100])

    def test_a_grant_stands(self):
        for line in (granted_to_1(), known_at_1(), paid_at_1(), known_at_1() + [giveup(1, 10)],
                     known_at_1() + [pass_on(5000)], paid_at_1() + [tell(1, 10)]):
            self.assertEqual(told(*line, refund(0, 10), office(0))[-2:],
                             [[-4], [1, 4, 105, 105, 5000 if pass_on(5000) in line else 0, 3, 1, 10]])

    def test_a_grant_to_the_own_office_stands(self):
        self.assertEqual(last(begin(), issue(0), present(0, 10), deliver(0), deliver(1), refund(0, 10)), [-4])

    def test_closed(self):
        self.assertEqual(told(*closed_by_1(), refund(0, 10), order(10))[-2:], [[-4], order_row(3, 1, 1, 1, 60)])

    def test_closed_even_if_no_grant_stood(self):
        world = world_after(*closed_by_1())
        world.offices[0].orders[10].grants.pop()
        self.assertEqual(do(world, refund(0, 10)), [-4])

    def test_the_drawer_has_less(self):
        self.assertEqual(told(*SHORT, refund(0, 10), fill(0, 94), refund(0, 10), fill(0, 1), refund(0, 10), office(0))[7:],
                         [[-7], [99], [-7], [100], [100], [1, 4, 0, 0, 0, 9, 1, 10]])

    def test_the_order_of_refusals(self):
        self.assertEqual(last(begin(), refund(3, -1, 4)), [-5])
        self.assertEqual(last(begin(), cut(0), refund(0, -1, 4)), [-6])
        self.assertEqual(last(begin(), cut(0), refund(0, 10)), [-6])
        self.assertEqual(last(begin(), refund(0, -1)), [-12])
        self.assertEqual(last(begin(), refund(0, 10, 4)), [-12])
        self.assertEqual(last(*SHORT, refund(0, 11)), [-3])
        self.assertEqual(last(*SHORT, present(1, 10), deliver(2), refund(0, 10)), [-4])
        self.assertEqual(last(*SHORT, fill(0, 95), refund(0, 10), refund(0, 10)), [-4])
        for at in (1, 2, 3):
            self.assertEqual(told(*SHORT, refund(0, 10, at), fill(0, 1))[-2:], [[-7], [6]])

    def test_a_refusal_changes_nothing(self):
        world = world_after(*SHORT, issue(2), present(1, 12), deliver(2), issue(1, cut=1))
        before = plain(world)
        for call in (refund(3, 10), refund(1, 11), refund(0, -1), refund(0, 10, 4), refund(0, 20), refund(0, 10),
                     refund(2, 12), refund(0, 10, 2)):
            self.assertLess(do(world, call)[0], 0)
        self.assertEqual(plain(world), before)

    def test_whatever_the_clock_shows(self):
        for z in (-100000, 100000):
            self.assertEqual(last(begin(), issue(0), clock(0, z), refund(0, 10)), [100])


if __name__ == "__main__":
    unittest.main()

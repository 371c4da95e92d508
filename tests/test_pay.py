import unittest

from moneyorders.journals import Office
from tests.helper import (
    FAR, begin, clock, deliver, do, fill, giveup, issue, known_at_1, last, pass_on, pay, plain, present, query, told,
    world_after)

MOST = 10 ** 9
READY = known_at_1() + [fill(1, 130)]


class Pay(unittest.TestCase):
    def test_answers_the_coins_without_the_fee(self):
        self.assertEqual(told(*READY, pay(1, 10), fill(1, 1))[-2:], [[100], [31]])

    def test_only_once(self):
        self.assertEqual(told(*READY, pay(1, 10), fill(1, 500), pay(1, 10))[-1], [-3])

    def test_at_the_orders_own_office(self):
        self.assertEqual(told(begin(fee=5), issue(0, 100), present(0, 10), deliver(0), deliver(1), pay(0, 10),
                              pay(0, 10), fill(0, 1))[5:], [[100], [-3], [6]])

    def test_both_edges_of_the_order(self):
        for n in (-FAR, -1, 100001, FAR):
            self.assertEqual(last(*READY, pay(1, n)), [-12])
        for n in (0, 100000):
            self.assertEqual(last(*READY, pay(1, n)), [-3])

    def test_both_edges_of_the_cut(self):
        for cut in (-FAR, -1, 4, FAR):
            self.assertEqual(told(*READY, pay(1, 10, cut), pay(1, 10))[-2:], [[-12], [100]])

    def test_not_payable(self):
        self.assertEqual(last(*READY, fill(2, 500), pay(2, 10)), [-3])
        self.assertEqual(last(*READY, pay(0, 10)), [-3])
        self.assertEqual(last(*READY, pay(1, 20)), [-3])
        self.assertEqual(last(begin(), issue(0), pay(0, 10)), [-3])
        self.assertEqual(last(begin(), issue(0), fill(1, 500), present(1, 10), deliver(0), pay(1, 10)), [-3])
        self.assertEqual(last(*READY, giveup(1, 10), pay(1, 10)), [-3])

    def test_payable_by_the_last_known_grant(self):
        for order in ((1, 2, 3), (3, 2, 1), (2, 3, 1)):
            office = Office()
            for grant in order:
                office.write_known(10, grant, 100, 60)
            office.write_known(20, 4, 100, 60)
            office.write_given_up(10, 3)
            self.assertEqual(office.payable(10).grant, 2)

    def test_the_till_at_just_the_minute_one_before_and_one_behind(self):
        for offset in (0, 40, -40, 100000, -100000):
            line = [begin(lease=60), clock(0, offset), clock(1, offset)] + READY[1:]
            self.assertEqual(last(*line, pass_on(59), pay(1, 10)), [100])
            self.assertEqual(last(*line, pass_on(60), pay(1, 10)), [-4])
            self.assertEqual(last(*line, pass_on(61), pay(1, 10)), [-4])

    def test_the_paying_offices_clock_counts(self):
        self.assertEqual(last(*READY, clock(1, 60), pay(1, 10)), [-4])
        self.assertEqual(last(*READY, clock(1, 59), pay(1, 10)), [100])
        self.assertEqual(last(*READY, clock(0, 100), pay(1, 10)), [100])
        self.assertEqual(last(*READY, pass_on(90), clock(1, -30), pay(1, 10)), [-4])
        self.assertEqual(last(*READY, pass_on(90), clock(1, -31), pay(1, 10)), [100])

    def test_a_till_over_may_be_there_again_by_a_clock_set_back(self):
        self.assertEqual(told(*READY, pass_on(60), pay(1, 10), clock(1, -1), pay(1, 10))[-3:], [[-4], [0, 59], [100]])

    def test_the_drawer_has_less(self):
        self.assertEqual(last(*known_at_1(), pay(1, 10)), [-7])
        self.assertEqual(told(*known_at_1(), fill(1, 99), pay(1, 10), fill(1, 1), pay(1, 10), fill(1, 3))[-4:],
                         [[-7], [100], [100], [3]])

    def test_an_orders_coins_not_its_fee_must_be_there(self):
        line = [begin(fee=1000), issue(0, 1), present(1, 10), deliver(0), deliver(1), fill(1, 1)]
        self.assertEqual(last(*line, pay(1, 10)), [1])

    def test_the_order_of_refusals(self):
        for p in (-FAR, -1, 3, FAR):
            self.assertEqual(last(*READY, pay(p, -1, 4)), [-5])
        self.assertEqual(last(*READY, issue(1, cut=3), pay(1, -1, 4)), [-6])
        self.assertEqual(last(*READY, issue(1, cut=3), pay(1, 20)), [-6])
        self.assertEqual(last(*READY, pay(2, 10, 4)), [-12])
        self.assertEqual(last(*READY, pass_on(60), pay(1, 10, 4)), [-12])
        self.assertEqual(last(*READY, pass_on(60), pay(2, 10)), [-3])
        self.assertEqual(last(*known_at_1(), pass_on(60), pay(1, 10)), [-4])
        self.assertEqual(last(*known_at_1(), pay(1, 10, 4)), [-12])

    def test_a_refusal_changes_nothing(self):
        for line in (known_at_1(), known_at_1() + [pass_on(60)], READY + [pay(1, 10)]):
            world = world_after(*line)
            before = plain(world)
            for call in (pay(3, 10), pay(1, -1), pay(1, 10, 4), pay(1, 10), pay(2, 10, 3), pay(1, 10, 1)):
                self.assertLess(do(world, call)[0], 0)
            self.assertEqual(plain(world), before)

    def test_needs_no_room_for_messages(self):
        self.assertEqual(last(*READY, *[present(1, 10)] * 298, pay(1, 10)), [100])


class CutPay(unittest.TestCase):
    def test_the_answer_is_the_same_whatever_cut_came(self):
        for cut in (0, 1, 2, 3):
            self.assertEqual(last(*READY, pay(1, 10, cut)), [100])

    def test_the_office_is_down_unless_there_was_no_cut(self):
        self.assertEqual(told(*READY, pay(1, 10, 0), fill(1, 1))[-1], [31])
        for cut in (1, 2, 3):
            self.assertEqual(told(*READY, pay(1, 10, cut), fill(1, 1), pay(1, 10), giveup(1, 10), deliver(1),
                                  fill(0, 1))[-5:], [[-6], [-6], [-6], [-6], [106]])

    def test_the_cash_is_out_of_the_drawer_unless_the_cut_came_ahead_of_it(self):
        for cut, left in ((0, 30), (1, 130), (2, 30), (3, 130)):
            room = MOST - 105 - left
            self.assertEqual(told(*READY, pay(1, 10, cut), fill(2, room + 1), fill(2, room))[-2:], [[-8], [room]])

    def test_what_is_written_down_at_each_cut(self):
        for cut, records, book in ((0, 4, 30), (1, 3, 130), (2, 3, 130), (3, 2, 130)):
            office = world_after(*READY, pay(1, 10, cut)).offices[1]
            self.assertEqual((len(office.journal), office.book()), (records, book))
            self.assertEqual(office.payable(10) is None, cut == 0)

    def test_nothing_is_sent(self):
        for cut in (0, 1, 2, 3):
            self.assertEqual(told(*READY, pay(1, 10, cut), present(2, 10))[-1], [2])

    def test_the_own_office_cut_while_paying(self):
        line = [begin(), issue(0), present(0, 10), deliver(0), deliver(1)]
        self.assertEqual(told(*line, pay(0, 10, 2), query(0, 10), issue(0))[5:], [[100], [-6], [-6]])


class SeveralOrders(unittest.TestCase):
    def test_several_orders_at_several_offices(self):
        line = [begin(3, 2, 1000, 60), issue(0, 10, 1), issue(1, 20, 2), issue(2, 30, 3), issue(0, 40, 4),
                present(2, 10, 1), present(2, 11, 2), present(1, 12, 3), present(1, 20, 4)]
        line += [deliver(m) for m in range(8)]
        found = told(*line, pay(1, 12), pay(1, 20), pay(1, 10), fill(1, 18), pay(1, 20), pay(2, 10), pay(2, 11),
                     fill(0, 1), fill(1, 1), fill(2, 1))
        self.assertEqual(found[1:5], [[10], [11], [12], [20]])
        self.assertEqual(found[9:13], [[1, 1, 4], [1, 1, 5], [1, 1, 6], [1, 1, 7]])
        self.assertEqual(found[13:17], [[0, 1, -1]] * 4)
        self.assertEqual(found[17:], [[-7], [-7], [-3], [40], [40], [10], [20], [55], [1], [3]])

    def test_an_order_presented_at_two_offices_the_own_one_among_them(self):
        line = [begin(), issue(0), present(1, 10), present(0, 10), deliver(0), deliver(1), deliver(2), deliver(3),
                fill(1, 100)]
        self.assertEqual(told(*line, pay(0, 10), pay(1, 10), pay(0, 10))[-3:], [[-3], [100], [-3]])

    def test_given_back_and_paid_by_another(self):
        line = READY + [giveup(1, 10), deliver(2), present(2, 10), deliver(3), deliver(4), fill(2, 100)]
        self.assertEqual(told(*line, deliver(1), pay(1, 10), pay(2, 10), pay(2, 10))[-4:],
                         [[0, 0, -1], [-3], [100], [-3]])

    def test_paid_by_the_second_grant_to_the_same_office(self):
        line = READY + [giveup(1, 10), deliver(2), pass_on(30), present(1, 10), deliver(3), deliver(4), pass_on(59)]
        self.assertEqual(told(*line, pay(1, 10), query(0, 10), deliver(5), deliver(6), query(0, 10))[-5:],
                         [[100], [5], [1, 0, 6], [0, 1, -1], [-3]])


if __name__ == "__main__":
    unittest.main()

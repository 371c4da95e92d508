import unittest

from tests.helper import (
    begin, claim, clock, closed_by_1, count, cut, deliver, do, fill, given_back_by_1, giveup, go_round, granted_to_1,
    issue, known_at_1, last, lose, msg, net, net_rows, office, order, order_row, paid_at_1, pass_on, pay, plain,
    present, query, refund, sums, tell, told, world_after)

STANDING = order_row(2, 1, 1, 1, 60)
GIVEN_BACK = order_row(1, 1)
CLOSED = order_row(3, 1, 1, 1, 60)


class NothingToAsk(unittest.TestCase):
    def test_no_offices_and_no_orders(self):
        self.assertEqual(told(go_round(), begin(), go_round(), begin(5), go_round()), [[0], [0], [0], [0], [0]])

    def test_no_grant_stands(self):
        for line in ([begin(), issue(0), issue(1)], given_back_by_1(), given_back_by_1() + [pass_on(100000)],
                     [begin(), issue(0), refund(0, 10)], [begin(), issue(0), present(1, 10)],
                     [begin(), issue(0, cut=1), count(0)]):
            world = world_after(*line)
            before = plain(world)
            self.assertEqual(do(world, go_round()), [0])
            self.assertEqual(plain(world), before)

    def test_closed(self):
        self.assertEqual(told(*closed_by_1(), go_round(), order(10), pass_on(5000), go_round(), order(10))[-5:],
                         [[0], CLOSED, [5000], [0], CLOSED])


class OneOrder(unittest.TestCase):
    def test_paid_is_known_to_be(self):
        self.assertEqual(told(*paid_at_1(), go_round(), order(10), office(0), office(1), sums(), go_round())[-6:],
                         [[1], CLOSED, [1, 4, 105, 105, 0, 4, 1, 10], [1, 4, 30, 30, 0, 4, 0],
                          [135, 130, 105, 100, 0, 2], [0]])

    def test_given_up_is_given_back(self):
        line = known_at_1() + [giveup(1, 10)]
        self.assertEqual(told(*line, go_round(), order(10), office(0), office(1), sums(), go_round(), deliver(2))[-7:],
                         [[1], GIVEN_BACK, [1, 4, 105, 105, 0, 4, 1, 10], [1, 4, 0, 0, 0, 2, 0],
                          [105, 0, 105, 0, 0, 3], [0], [0, 0, -1]])

    def test_given_up_without_being_known(self):
        line = granted_to_1() + [query(0, 10), deliver(2)]
        self.assertEqual(told(*line, go_round(), order(10), go_round(), deliver(3))[-4:],
                         [[1], GIVEN_BACK, [0], [0, 0, -1]])

    def test_never_known_is_given_up_and_given_back(self):
        line = granted_to_1() + [fill(1, 100)]
        self.assertEqual(told(*line, go_round(), order(10), office(0), office(1), sums(), go_round())[-6:],
                         [[2], GIVEN_BACK, [1, 4, 105, 105, 0, 4, 1, 10], [1, 4, 100, 100, 0, 2, 0],
                          [205, 100, 105, 0, 0, 2], [0]])
        self.assertEqual(told(*line, go_round(), deliver(1), claim(1, 10), pay(1, 10), tell(1, 10))[-4:],
                         [[0, 0, -1], [0], [-3], [2, 5]])

    def test_known_within_at_and_past_its_till(self):
        for passed, records, then in ((0, 0, STANDING), (59, 0, STANDING), (60, 2, GIVEN_BACK), (61, 2, GIVEN_BACK)):
            line = known_at_1() + [pass_on(passed)]
            self.assertEqual(told(*line, go_round(), order(10), go_round())[-3:], [[records], then, [0]])
            self.assertEqual(last(*line, go_round(), claim(1, 10)), [1, 1, 100, 60, 0, 1 if records else 0])

    def test_within_its_till_it_may_still_be_paid(self):
        line = known_at_1() + [pass_on(59), go_round(), fill(1, 100)]
        self.assertEqual(told(*line, pay(1, 10), go_round(), go_round())[-3:], [[100], [1], [0]])

    def test_by_the_asked_offices_clock_alone(self):
        for z, z_home, records in ((-1, 0, 0), (0, -60, 2), (0, -100000, 2), (-60, 100000, 0), (-100000, 0, 0)):
            line = known_at_1() + [pass_on(60), clock(1, z), clock(0, z_home)]
            self.assertEqual(last(*line, go_round()), [records])
        self.assertEqual(last(*known_at_1(), clock(1, 60), go_round()), [2])
        self.assertEqual(last(*known_at_1(), clock(1, 59), go_round()), [0])

    def test_a_clock_set_back_behind_it(self):
        line = known_at_1() + [fill(1, 100), clock(1, 60), go_round(), clock(1, 0)]
        self.assertEqual(told(*line, pay(1, 10), go_round(), present(2, 10), deliver(2), msg(3))[-5:],
                         [[-3], [0], [2], [1, 1, 3], [2, 10, 2, 0, 2, 100, 60, 0]])

    def test_the_second_grant(self):
        line = given_back_by_1() + [present(2, 10), deliver(3)]
        self.assertEqual(told(*line, go_round(), order(10), go_round())[-3:], [[2], order_row(1, 2), [0]])
        line += [deliver(4), fill(2, 100), pay(2, 10)]
        self.assertEqual(told(*line, go_round(), order(10), net())[-3:],
                         [[1], order_row(3, 2, 2, 2, 60), net_rows(3, k02=100, p02=100)])

    def test_out_of_date(self):
        self.assertEqual(told(*granted_to_1(), pass_on(5000), go_round(), order(10))[-2:], [[2], GIVEN_BACK])
        self.assertEqual(told(*paid_at_1(), pass_on(5000), go_round(), order(10))[-2:], [[1], CLOSED])


class OwnOffice(unittest.TestCase):
    GRANTED = [begin(), issue(0), present(0, 10), deliver(0)]

    def test_never_known(self):
        self.assertEqual(told(*self.GRANTED, go_round(), order(10), office(0), go_round())[-4:],
                         [[2], GIVEN_BACK, [1, 4, 105, 105, 0, 5, 1, 10], [0]])

    def test_known(self):
        line = self.GRANTED + [deliver(1)]
        self.assertEqual(told(*line, pass_on(59), go_round(), pass_on(1), go_round(), order(10), office(0))[-6:],
                         [[59], [0], [60], [2], GIVEN_BACK, [1, 4, 105, 105, 60, 6, 1, 10]])

    def test_paid(self):
        line = self.GRANTED + [deliver(1), pay(0, 10)]
        self.assertEqual(told(*line, go_round(), order(10), go_round())[-3:], [[1], order_row(3, 1, 0, 1, 60), [0]])

    def test_given_up(self):
        self.assertEqual(told(*self.GRANTED, deliver(1), giveup(0, 10), go_round(), order(10))[-2:], [[1], GIVEN_BACK])

    def test_down(self):
        self.assertEqual(told(*self.GRANTED, cut(0), go_round(), count(0), go_round())[-3:], [[0], [0, 105, 105], [2]])


class Down(unittest.TestCase):
    def test_one_of_the_two_or_both(self):
        for line, records in ((granted_to_1(), 2), (known_at_1() + [pass_on(60)], 2), (paid_at_1(), 1),
                              (known_at_1() + [giveup(1, 10)], 1)):
            for low in ((0,), (1,), (0, 1)):
                world = world_after(*line, *[cut(o) for o in low])
                before = plain(world)
                self.assertEqual(do(world, go_round()), [0])
                self.assertEqual(plain(world), before)
                for o in low:
                    do(world, count(o))
                self.assertEqual(do(world, go_round()), [records])
                self.assertEqual(do(world, go_round()), [0])

    def test_a_third_office_does_not_matter(self):
        self.assertEqual(last(*granted_to_1(), cut(2), go_round()), [2])

    def test_an_act_that_is_neither_done_nor_not(self):
        for at, records, then in ((1, 2, GIVEN_BACK), (2, 1, CLOSED), (3, 2, GIVEN_BACK)):
            found = told(*paid_at_1(at), pass_on(60), go_round(), order(10), count(1), go_round(), order(10), go_round())
            self.assertEqual(found[-6:-4], [[0], STANDING])
            self.assertEqual(found[-3:], [[records], then, [0]])


class SeveralOrders(unittest.TestCase):
    """Office 0 has the orders 10 to 60, each granted to office 1 or 2; offices 1 and 2 have one each."""

    LINE = ([begin(3, 0, 1000, 60)] + [issue(0, 10 * k) for k in range(1, 7)] + [issue(1, 70), issue(2, 80)]
            + [present(1, 10), present(2, 20), present(1, 30), present(2, 40), present(1, 50)]
            + [present(0, 11), present(2, 12)] + [deliver(m) for m in range(7)]
            + [deliver(7), deliver(8), deliver(9), deliver(11), deliver(12), deliver(13)]
            + [fill(1, 500), fill(2, 500), pay(1, 10), giveup(2, 20), pay(1, 50), pay(0, 11)])

    def test_each_in_its_way(self):
        # 10, 50 and 11 paid; 20 given up; 30 and 12 known; 40 never known; 60 not granted.
        line = self.LINE + [go_round()]
        self.assertEqual(last(*line), [1 + 1 + 0 + 2 + 1 + 0 + 1 + 0])
        self.assertEqual(told(*line, order(10), order(20), order(30), order(40), order(50), order(60))[-6:],
                         [order_row(3, 1, 1, 1, 60, coins=10), order_row(1, 1, coins=20),
                          order_row(2, 1, 1, 1, 60, coins=30), order_row(1, 1, coins=40),
                          order_row(3, 1, 1, 1, 60, coins=50), order_row(1, 0, coins=60)])
        self.assertEqual(told(*line, order(11), order(12))[-2:],
                         [order_row(3, 1, 0, 1, 60, coins=70), order_row(2, 1, 2, 1, 60, coins=80)])
        self.assertEqual(last(*line, net()), net_rows(3, k01=60, p01=60, k10=70, p10=70))

    def test_again_and_when_all_leases_are_over(self):
        self.assertEqual(told(*self.LINE, go_round(), go_round(), pass_on(60), go_round(), go_round(), go_round())[-6:],
                         [[6], [0], [60], [4], [0], [0]])

    def test_where_each_wrote(self):
        found = told(*self.LINE, office(0), office(1), office(2), go_round(), office(0), office(1), office(2))
        before = [answer[5] for answer in found[-7:-4]]
        behind = [answer[5] for answer in found[-3:]]
        self.assertEqual([after - ahead for ahead, after in zip(before, behind)], [4, 1, 1])

    def test_with_one_office_down(self):
        self.assertEqual(told(*self.LINE, cut(1), go_round(), count(1), go_round())[-3:], [[3], [0, 510, 510], [3]])
        self.assertEqual(told(*self.LINE, cut(0), go_round(), count(0), go_round())[-3:], [[0], [0, 140, 140], [6]])

    def test_keeps_no_message(self):
        found = told(*self.LINE, sums(), msg(15), go_round(), sums(), msg(15), pass_on(60), go_round(), sums(), msg(15))
        self.assertEqual([found[at][-1] for at in (-9, -6, -2)], [15, 15, 15])
        self.assertEqual([found[at] for at in (-8, -5, -1)], [[-5], [-5], [-5]])

    def test_with_three_hundred_messages(self):
        line = granted_to_1() + [present(1, 10)] * 298
        self.assertEqual(told(*line, deliver(1), go_round(), sums(), go_round())[-4:],
                         [[-9], [2], [105, 0, 105, 0, 0, 300], [0]])

    def test_messages_that_come_late_behind_it(self):
        line = known_at_1() + [query(0, 10), pass_on(60), deliver(2), go_round()]
        self.assertEqual(told(*line, deliver(3), deliver(2), deliver(1), order(10))[-5:],
                         [[1], [0, 0, -1], [1, 0, 4], [0, 0, -1], GIVEN_BACK])
        self.assertEqual(told(*paid_at_1(), tell(1, 10), go_round(), deliver(2), order(10))[-3:],
                         [[1], [0, 0, -1], CLOSED])

    def test_a_lost_grant_and_a_lost_telling(self):
        self.assertEqual(last(*granted_to_1(), lose(1), go_round()), [2])
        self.assertEqual(last(*paid_at_1(), tell(1, 10), lose(2), go_round()), [1])


class PromiseFour(unittest.TestCase):
    """Once all offices are up and all leases are over by their clocks, one round is enough."""

    def test_every_state_of_a_grant(self):
        line = SeveralOrders.LINE + [pay(1, 30, 2), cut(0), cut(2), clock(1, -40), count(0), count(1), count(2)]
        line += [pass_on(100), go_round()]
        for n in (10, 20, 30, 40, 50, 60, 11, 12):
            found = told(*line, order(n))
            self.assertEqual(found[-2], [1 + 1 + 1 + 2 + 1 + 0 + 1 + 2])
            self.assertNotEqual(found[-1][0], 2)
        self.assertEqual(last(*line, order(30)), order_row(3, 1, 1, 1, 60, coins=30))

    def test_one_minute_ahead_it_may_still_stand(self):
        line = SeveralOrders.LINE + [clock(1, -40)]
        self.assertEqual(told(*line, pass_on(99), go_round(), order(30), pass_on(1), go_round(), order(30))[-6:],
                         [[99], [8], order_row(2, 1, 1, 1, 60, coins=30), [100], [2], order_row(1, 1, coins=30)])


if __name__ == "__main__":
    unittest.main()

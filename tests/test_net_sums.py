import unittest

from tests.helper import (
    begin, closed_by_1, count, cut, deliver, do, fill, given_back_by_1, giveup, go_round, issue, known_at_1, last, lose,
    net, net_rows, paid_at_1, pass_on, pay, plain, present, query, refund, sums, tell, told, world_after)

ALONE = [begin(1), issue(0), present(0, 10), deliver(0), deliver(1)]


def all_granted(*pairs):
    """Each order presented at its office, granted and known there, where no message was sent before."""
    line = []
    for k, (p, n) in enumerate(pairs):
        line += [present(p, n), deliver(2 * k), deliver(2 * k + 1)]
    return line


class Net(unittest.TestCase):
    def test_no_office(self):
        self.assertEqual(last(net()), [0])

    def test_one_office_without_a_count(self):
        self.assertEqual(last(begin(1), net()), [1, 0, 0])
        self.assertEqual(told(*ALONE, net(), pay(0, 10), net(), tell(0, 10), net(), deliver(2), net())[-7:],
                         [[1, 0, 0], [100], [1, 0, 100], [2, 4], [1, 0, 100], [0, 1, -1], [1, 100, 100]])

    def test_two_offices_and_five_with_counts(self):
        self.assertEqual(last(begin(2), net()), [2, 4, 0, 0, 0, 0, 4, 0, 0, 0, 0])
        self.assertEqual(last(begin(5), net()), [5] + ([10] + [0] * 10) * 5)

    def test_paid_told_and_known(self):
        line = paid_at_1()
        self.assertEqual(last(*line, net()), [3, 6, 0, 0, 0, 100, 0, 0, 6, 0, 0, 0, 0, 0, 0, 6, 0, 0, 0, 0, 0, 0])
        self.assertEqual(last(*line, tell(1, 10), net()), net_rows(3, p01=100))
        self.assertEqual(last(*line, tell(1, 10), lose(2), net()), net_rows(3, p01=100))
        self.assertEqual(last(*line, tell(1, 10), deliver(2), net()),
                         [3, 6, 0, 0, 100, 100, 0, 0, 6, 0, 0, 0, 0, 0, 0, 6, 0, 0, 0, 0, 0, 0])
        self.assertEqual(last(*line, tell(1, 10), deliver(2), deliver(2), net()), net_rows(3, k01=100, p01=100))
        self.assertEqual(last(*line, query(0, 10), deliver(2), net()), net_rows(3, p01=100))
        self.assertEqual(last(*line, query(0, 10), deliver(2), deliver(3), net()), net_rows(3, k01=100, p01=100))
        self.assertEqual(last(*line, go_round(), net()), net_rows(3, k01=100, p01=100))

    def test_neither_granted_nor_known_nor_given_up_counts(self):
        for line in ([begin(), issue(0)], known_at_1(), given_back_by_1(), known_at_1() + [giveup(1, 10)],
                     [begin(), issue(0), refund(0, 10)]):
            self.assertEqual(last(*line, net()), net_rows(3))

    def test_sums_over_several_orders_and_offices(self):
        line = [begin(3, 5), issue(0, 10), issue(0, 20), issue(0, 40), issue(1, 80), issue(2, 160), issue(2, 320)]
        line += all_granted((1, 10), (1, 20), (2, 30), (0, 11), (2, 12), (1, 22)) + [fill(o, 1000) for o in range(3)]
        line += [pay(1, 10), pay(1, 20), pay(2, 30), pay(0, 11), pay(2, 12), pay(1, 22)]
        self.assertEqual(last(*line, net()), net_rows(3, p01=30, p02=40, p10=80, p22=160, p21=320))
        line += [tell(1, 20), tell(2, 12), tell(0, 11), deliver(12), deliver(13)]
        self.assertEqual(last(*line, net()),
                         net_rows(3, k01=20, p01=30, p02=40, p10=80, k22=160, p22=160, p21=320))
        self.assertEqual(told(*line, go_round(), net())[-2:],
                         [[4], net_rows(3, k01=30, p01=30, k02=40, p02=40, k10=80, p10=80, k22=160, p22=160,
                                        k21=320, p21=320)])
        self.assertEqual(last(*line, sums()), [3000 + 660 - 630, 3000, 660, 630, 0, 15])

    def test_by_the_second_grant(self):
        line = given_back_by_1() + [present(2, 10), deliver(3), deliver(4), fill(2, 100), pay(2, 10), tell(2, 10, 2)]
        self.assertEqual(told(*line, net(), deliver(5), net())[-3:],
                         [net_rows(3, p02=100), [0, 1, -1], net_rows(3, k02=100, p02=100)])

    def test_an_act_counts_only_when_it_was_done(self):
        for at, behind in ((0, 100), (1, 0), (2, 100), (3, 0)):
            self.assertEqual(last(*paid_at_1(at), net()), net_rows(3, p01=0 if at else 100))
            self.assertEqual(last(*paid_at_1(at), count(1), net()), net_rows(3, p01=behind))

    def test_offices_that_are_down(self):
        self.assertEqual(last(*closed_by_1(), cut(0), cut(1), net()), net_rows(3, k01=100, p01=100))

    def test_changes_nothing(self):
        world = world_after(*closed_by_1())
        before = plain(world)
        do(world, net())
        do(world, sums())
        self.assertEqual(plain(world), before)


class Sums(unittest.TestCase):
    def test_before_any_begin(self):
        self.assertEqual(told(sums(), begin(), sums()), [[0, 0, 0, 0, 0, 0], [0], [0, 0, 0, 0, 0, 0]])

    def test_brought_issued_paid_refunded_and_sent(self):
        line = [begin(3, 5), fill(0, 7), fill(1, 130), fill(1, 20), issue(0, 100), issue(2, 50), issue(0, 30)]
        self.assertEqual(last(*line, sums()), [157 + 195, 157, 195, 0, 0, 0])
        line += all_granted((1, 10), (1, 12)) + [pay(1, 10), pay(1, 12)]
        self.assertEqual(last(*line, sums()), [157 + 195 - 150, 157, 195, 150, 0, 4])
        line += [refund(0, 20), tell(1, 10), lose(4), lose(4)]
        self.assertEqual(last(*line, sums()), [157 + 195 - 180, 157, 195, 150, 30, 5])
        self.assertEqual(last(*line, begin(), sums()), [0, 0, 0, 0, 0, 0])

    def test_a_fee_of_none_and_the_greatest(self):
        self.assertEqual(last(begin(fee=0), issue(0, 100), sums()), [100, 0, 100, 0, 0, 0])
        self.assertEqual(last(begin(fee=1000), issue(0, 100), refund(0, 10), sums()), [1000, 0, 1100, 0, 100, 0])

    def test_what_is_neither_done_nor_not_is_in_no_sum_but_the_cash(self):
        for at, ahead, behind in ((1, [130, 130, 0, 0, 0, 0], [130, 130, 0, 0, 0, 0]),
                                  (2, [235, 130, 0, 0, 0, 0], [235, 130, 105, 0, 0, 0]),
                                  (3, [130, 130, 0, 0, 0, 0], [130, 130, 0, 0, 0, 0])):
            self.assertEqual(told(begin(), fill(1, 130), issue(0, cut=at), sums(), count(0), sums())[-3::2],
                             [ahead, behind])

    def test_payments_and_refunds_by_the_own_office(self):
        self.assertEqual(last(*ALONE, pay(0, 10), sums()), [5, 0, 105, 100, 0, 2])
        self.assertEqual(last(*ALONE, pass_on(60), go_round(), refund(0, 10), sums()), [5, 0, 105, 0, 100, 2])

    def test_the_greatest_cash(self):
        self.assertEqual(told(begin(fee=0), fill(0, 10 ** 9 - 9), issue(1, 9), sums())[-1],
                         [10 ** 9, 10 ** 9 - 9, 9, 0, 0, 0])
        self.assertEqual(told(begin(fee=0), fill(0, 10 ** 9 - 9), issue(1, 9), fill(1, 1), refund(1, 11), fill(1, 9),
                              sums())[-4:],
                         [[-8], [9], [9], [10 ** 9, 10 ** 9, 9, 0, 9, 0]])


if __name__ == "__main__":
    unittest.main()

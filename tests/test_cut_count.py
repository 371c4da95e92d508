import unittest

from tests.helper import (
    FAR, begin, claim, clock, count, cut, deliver, do, fill, giveup, go_round, issue, known_at_1, last, lose, msg, net,
    net_rows, office, order, order_row, paid_at_1, pass_on, pay, plain, present, query, refund, sums, tell, told,
    world_after)

ISSUED = order_row(1, 0)
REFUNDED = order_row(4, 0)
UNPAID = [1, 1, 100, 60, 0, 0]
PAID = [1, 1, 100, 60, 1, 0]


class Cut(unittest.TestCase):
    def test_answers_0_and_the_office_is_down(self):
        self.assertEqual(told(begin(), fill(1, 9), cut(1), office(1), office(0))[2:],
                         [[0], [0, 4, 9, 9, 0, 1, 0], [1, 4, 0, 0, 0, 0, 0]])

    def test_every_call_that_asks_for_up(self):
        line = known_at_1() + [fill(1, 500), cut(1)]
        for call in (fill(1, 1), issue(1), present(1, 10), deliver(1), pay(1, 10), giveup(1, 10), query(1, 10),
                     tell(1, 10), refund(1, 11), cut(1)):
            self.assertEqual(last(*line, call), [-6])

    def test_what_may_be_done_while_it_is_down(self):
        line = known_at_1() + [fill(1, 500), cut(1)]
        self.assertEqual(told(*line, clock(1, 7), office(1), claim(1, 10), present(0, 11), query(0, 10), lose(2),
                              go_round(), count(1))[7:],
                         [[0, 7], [0, 4, 500, 500, 7, 2, 0], UNPAID, [2], [3], [0], [0], [0, 500, 500]])

    def test_no_such_office(self):
        for o in (-FAR, -1, 3, FAR):
            self.assertEqual(last(begin(3), cut(o)), [-5])
        self.assertEqual(last(cut(0)), [-5])

    def test_a_refusal_changes_nothing(self):
        world = world_after(begin(), issue(0, cut=1))
        before = plain(world)
        for call in (cut(0), cut(3), cut(-1)):
            self.assertLess(do(world, call)[0], 0)
        self.assertEqual(plain(world), before)

    def test_what_is_written_and_in_the_drawer_stays(self):
        line = known_at_1() + [fill(1, 130), cut(1), count(1)]
        self.assertEqual(told(*line, claim(1, 10), pay(1, 10))[-3:], [[0, 130, 130], UNPAID, [100]])

    def test_begin_makes_all_new(self):
        self.assertEqual(told(begin(), issue(0, cut=1), begin(), office(0), issue(0))[-2:],
                         [[1, 4, 0, 0, 0, 0, 0], [10]])


class Count(unittest.TestCase):
    def test_an_office_that_cut_alone_put_down(self):
        self.assertEqual(told(begin(), cut(0), count(0), office(0))[2:], [[0, 0, 0], [1, 4, 0, 0, 0, 0, 0]])
        self.assertEqual(told(begin(), issue(0), cut(0), count(0), office(0))[3:],
                         [[0, 105, 105], [1, 4, 105, 105, 0, 2, 1, 10]])
        self.assertEqual(told(begin(), issue(0), refund(0, 10), cut(0), count(0), order(10))[4:],
                         [[0, 5, 5], REFUNDED])

    def test_cut_and_count_behind_an_act_that_was_counted(self):
        for at, counted in ((1, [4, 0, 0]), (2, [3, 105, 105])):
            self.assertEqual(told(begin(), issue(0, cut=at), count(0), cut(0), count(0))[2:],
                             [counted, [0], [0] + counted[1:]])

    def test_up(self):
        self.assertEqual(last(begin(), count(0)), [-4])
        self.assertEqual(told(begin(), issue(0, cut=2), count(0), count(0))[-1], [-4])

    def test_no_such_office(self):
        for o in (-FAR, -1, 3, FAR):
            self.assertEqual(last(begin(3), cut(0), count(o)), [-5])
        self.assertEqual(last(count(0)), [-5])

    def test_a_refusal_changes_nothing(self):
        world = world_after(begin(), issue(0, cut=2), issue(1))
        before = plain(world)
        for call in (count(1), count(2), count(3), count(-1)):
            self.assertLess(do(world, call)[0], 0)
        self.assertEqual(plain(world), before)

    def test_only_that_office_is_up(self):
        self.assertEqual(told(begin(), cut(0), cut(1), count(1), fill(1, 5), fill(0, 5))[4:], [[5], [-6]])
        self.assertEqual(told(begin(), issue(0, cut=2), issue(1, cut=1), count(1), office(0))[3:],
                         [[4, 0, 0], [0, 4, 105, 0, 0, 1, 0]])


class Issue(unittest.TestCase):
    def behind(self, at, counted, *views):
        line = [begin(), issue(0, cut=at)]
        self.assertEqual(told(*line, count(0))[-1], counted)
        self.assertEqual(told(*line, count(0), office(0), order(10), sums(), issue(0))[3:], list(views))

    def test_before_it_is_counted(self):
        for at, seen in ((0, [[1, 4, 105, 105, 0, 2, 1, 10], ISSUED, [105, 0, 105, 0, 0, 0]]),
                         (1, [[0, 4, 0, 0, 0, 1, 0], [0], [0, 0, 0, 0, 0, 0]]),
                         (2, [[0, 4, 105, 0, 0, 1, 0], [0], [105, 0, 0, 0, 0, 0]]),
                         (3, [[0, 4, 0, 0, 0, 0, 0], [0], [0, 0, 0, 0, 0, 0]])):
            self.assertEqual(told(begin(), issue(0, cut=at), office(0), order(10), sums())[2:], seen)

    def test_cut_0(self):
        self.behind(0, [-4], [1, 4, 105, 105, 0, 2, 1, 10], ISSUED, [105, 0, 105, 0, 0, 0], [20])

    def test_cut_1_came_to_nothing_and_its_number_is_used_up(self):
        self.behind(1, [4, 0, 0], [1, 4, 0, 0, 0, 2, 0], [0], [0, 0, 0, 0, 0, 0], [20])

    def test_cut_2_was_done(self):
        self.behind(2, [3, 105, 105], [1, 4, 105, 105, 0, 2, 1, 10], ISSUED, [105, 0, 105, 0, 0, 0], [20])

    def test_cut_3_was_not_begun_and_its_number_is_told_anew(self):
        self.behind(3, [0, 0, 0], [1, 4, 0, 0, 0, 0, 0], [0], [0, 0, 0, 0, 0, 0], [10])

    def test_an_act_cut_a_second_time(self):
        line = [begin(), issue(0, 100, cut=1), count(0), issue(0, 200, cut=3), count(0), issue(0, 300, cut=2), count(0),
                issue(0, 400, cut=1), count(0), issue(0, 500)]
        self.assertEqual(told(*line, office(0))[1:],
                         [[10], [4, 0, 0], [20], [0, 0, 0], [20], [3, 305, 305], [30], [4, 305, 305], [40],
                          [1, 4, 810, 810, 0, 8, 2, 20, 40]])

    def test_a_drawer_that_had_cash(self):
        for at, counted in ((1, [4, 55, 55]), (2, [3, 160, 160]), (3, [0, 55, 55])):
            self.assertEqual(last(begin(), fill(0, 55), issue(0, cut=at), count(0)), counted)

    def test_its_time_and_its_key_are_those_of_the_issue(self):
        line = [begin(), pass_on(10), clock(0, 5), issue(0, key=33, cut=2), pass_on(500), clock(0, -3), count(0)]
        self.assertEqual(told(*line, order(10), present(1, 10, 33), deliver(0), msg(1))[-4:],
                         [order_row(1, 0, out_of_date=1015), [0], [1, 1, 1], [2, 10, 1, 0, 1, 100, 567, 0]])

    def test_asked_for_before_it_is_there(self):
        line = [begin(), present(1, 10), issue(0, cut=1), deliver(0), count(0), deliver(0), msg(1)]
        self.assertEqual(told(*line)[3:], [[-6], [4, 0, 0], [1, 0, 1], [3, 10, 0, 0, 1, 0, 0, 0]])
        self.assertEqual(told(begin(), present(1, 10), issue(0, cut=2), count(0), deliver(0), msg(1))[4:],
                         [[1, 1, 1], [2, 10, 1, 0, 1, 100, 60, 0]])

    def test_a_hundred_begun_and_all_but_one_came_to_nothing(self):
        line = [begin(), issue(0)] + [issue(0, cut=1), count(0)] * 99
        self.assertEqual(told(*line, issue(0), issue(0, cut=3), issue(1), office(0))[-4:],
                         [[-9], [-9], [11], [1, 4, 105, 105, 0, 200, 1, 10]])

    def test_those_cut_ahead_of_all_do_not_count_among_the_hundred(self):
        line = [begin()] + [issue(0, cut=3), count(0)] * 20 + [issue(0)] * 99
        self.assertEqual(told(*line, issue(0), issue(0))[-2:], [[1000], [-9]])


class Pay(unittest.TestCase):
    def views(self, line):
        return told(*line, office(1), claim(1, 10), net(), sums(), order(10))[-5:]

    def seen(self, state, claimed, paid, cash, paid_done):
        return [state, claimed, net_rows(3, p01=paid), [cash, 130, 105, paid_done, 0, 2], order_row(2, 1, 1, 1, 60)]

    def test_before_it_is_counted(self):
        self.assertEqual(self.views(paid_at_1(0)), self.seen([1, 4, 30, 30, 0, 4, 0], PAID, 100, 135, 100))
        self.assertEqual(self.views(paid_at_1(1)), self.seen([0, 4, 130, 130, 0, 3, 0], UNPAID, 0, 235, 0))
        self.assertEqual(self.views(paid_at_1(2)), self.seen([0, 4, 30, 130, 0, 3, 0], UNPAID, 0, 135, 0))
        self.assertEqual(self.views(paid_at_1(3)), self.seen([0, 4, 130, 130, 0, 2, 0], UNPAID, 0, 235, 0))

    def test_cut_1_was_not_done(self):
        line = paid_at_1(1) + [count(1)]
        self.assertEqual(last(*line), [4, 130, 130])
        self.assertEqual(self.views(line), self.seen([1, 4, 130, 130, 0, 4, 0], UNPAID, 0, 235, 0))
        self.assertEqual(told(*line, tell(1, 10), pay(1, 10), pay(1, 10))[-3:], [[-3], [100], [-3]])

    def test_cut_2_was_done(self):
        line = paid_at_1(2) + [count(1)]
        self.assertEqual(last(*line), [3, 30, 30])
        self.assertEqual(self.views(line), self.seen([1, 4, 30, 30, 0, 4, 0], PAID, 100, 135, 100))
        self.assertEqual(told(*line, fill(1, 500), pay(1, 10), giveup(1, 10), tell(1, 10))[-3:], [[-3], [-3], [2, 4]])

    def test_cut_3_was_not_begun(self):
        line = paid_at_1(3) + [count(1)]
        self.assertEqual(last(*line), [0, 130, 130])
        self.assertEqual(self.views(line), self.seen([1, 4, 130, 130, 0, 2, 0], UNPAID, 0, 235, 0))
        self.assertEqual(last(*line, pay(1, 10)), [100])

    def test_cut_a_second_time(self):
        line = paid_at_1(1) + [count(1), pay(1, 10, 3), count(1), pay(1, 10, 1), count(1), pay(1, 10, 2), count(1)]
        self.assertEqual(told(*line, office(1), pay(1, 10))[-9:],
                         [[4, 130, 130], [100], [0, 130, 130], [100], [4, 130, 130], [100], [3, 30, 30],
                          [1, 4, 30, 30, 0, 8, 0], [-3]])

    def test_counted_behind_its_till(self):
        self.assertEqual(told(*paid_at_1(2), pass_on(5000), go_round(), count(1), go_round(), order(10))[-4:],
                         [[0], [3, 30, 30], [1], order_row(3, 1, 1, 1, 60)])
        self.assertEqual(told(*paid_at_1(1), pass_on(60), count(1), pay(1, 10), go_round(), order(10))[-4:],
                         [[4, 130, 130], [-4], [2], order_row(1, 1)])

    def test_asked_while_it_is_neither(self):
        line = paid_at_1(2) + [query(0, 10), pass_on(60), deliver(2), refund(0, 10), count(1), deliver(2), msg(3)]
        self.assertEqual(told(*line)[-5:], [[-6], [-4], [3, 30, 30], [1, 0, 3], [4, 10, 1, 1, 0, 0, 0, 0]])

    def test_the_drawer_down_to_nothing(self):
        line = known_at_1() + [fill(1, 100)]
        self.assertEqual(told(*line, pay(1, 10, 2), count(1))[-1], [3, 0, 0])
        self.assertEqual(told(*line, pay(1, 10, 1), count(1))[-1], [4, 100, 100])

    def test_the_own_office_paying_cut(self):
        line = [begin(), issue(0), present(0, 10), deliver(0), deliver(1)]
        self.assertEqual(told(*line, pay(0, 10, 2), count(0), go_round(), order(10), office(0))[-4:],
                         [[3, 5, 5], [1], order_row(3, 1, 0, 1, 60), [1, 4, 5, 5, 0, 7, 1, 10]])
        self.assertEqual(told(*line, pay(0, 10, 1), count(0), pass_on(60), go_round(), refund(0, 10))[-4:],
                         [[4, 105, 105], [60], [2], [100]])


class Refund(unittest.TestCase):
    def views(self, line):
        return told(*line, office(0), order(10), sums(), net())[-4:]

    def seen(self, state, ordered, cash, refunded):
        return [state, ordered, [cash, 0, 105, 0, refunded, 0], net_rows(3)]

    def line(self, at):
        return [begin(), issue(0), refund(0, 10, at)]

    def test_the_answer_is_the_same_whatever_cut_came(self):
        for at in (0, 1, 2, 3):
            self.assertEqual(last(*self.line(at)), [100])

    def test_before_it_is_counted(self):
        self.assertEqual(self.views(self.line(0)), self.seen([1, 4, 5, 5, 0, 4, 1, 10], REFUNDED, 5, 100))
        self.assertEqual(self.views(self.line(1)), self.seen([0, 4, 105, 105, 0, 3, 1, 10], ISSUED, 105, 0))
        self.assertEqual(self.views(self.line(2)), self.seen([0, 4, 5, 105, 0, 3, 1, 10], ISSUED, 5, 0))
        self.assertEqual(self.views(self.line(3)), self.seen([0, 4, 105, 105, 0, 2, 1, 10], ISSUED, 105, 0))

    def test_cut_1_was_not_done(self):
        line = self.line(1) + [count(0)]
        self.assertEqual(last(*line), [4, 105, 105])
        self.assertEqual(self.views(line), self.seen([1, 4, 105, 105, 0, 4, 1, 10], ISSUED, 105, 0))
        self.assertEqual(told(*line, refund(0, 10), refund(0, 10))[-2:], [[100], [-4]])

    def test_cut_2_was_done(self):
        line = self.line(2) + [count(0)]
        self.assertEqual(last(*line), [3, 5, 5])
        self.assertEqual(self.views(line), self.seen([1, 4, 5, 5, 0, 4, 1, 10], REFUNDED, 5, 100))
        self.assertEqual(told(*line, fill(0, 500), refund(0, 10), present(1, 10), deliver(0), msg(1))[-4:],
                         [[-4], [0], [1, 0, 1], [3, 10, 0, 0, 1, 0, 0, 0]])

    def test_cut_3_was_not_begun(self):
        line = self.line(3) + [count(0)]
        self.assertEqual(last(*line), [0, 105, 105])
        self.assertEqual(self.views(line), self.seen([1, 4, 105, 105, 0, 2, 1, 10], ISSUED, 105, 0))
        self.assertEqual(last(*line, refund(0, 10)), [100])

    def test_cut_a_second_time(self):
        line = self.line(1) + [count(0), refund(0, 10, 1), count(0), refund(0, 10, 3), count(0), refund(0, 10, 2)]
        self.assertEqual(told(*line, count(0), refund(0, 10), office(0))[-4:],
                         [[100], [3, 5, 5], [-4], [1, 4, 5, 5, 0, 8, 1, 10]])

    def test_not_done_it_may_be_granted_and_paid(self):
        line = self.line(1) + [present(1, 10), deliver(0), count(0), deliver(0), deliver(1), fill(1, 100)]
        self.assertEqual(told(*line, refund(0, 10), pay(1, 10), go_round(), order(10))[-9:],
                         [[-6], [4, 105, 105], [1, 1, 1], [0, 1, -1], [100], [-4], [100], [1],
                          order_row(3, 1, 1, 1, 60)])


if __name__ == "__main__":
    unittest.main()

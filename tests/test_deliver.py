import unittest

from moneyorders.journals import Act, REFUNDING
from moneyorders.world import Message
from tests.helper import (
    FAR, begin, clock, deliver, do, fields, fill, giveup, issue, known_at_1, last, lose, pass_on, pay, plain, present,
    query, told, world_after)

GRANTED_TO_1 = [begin(), issue(0), present(1, 10), deliver(0)]
PAID_BY_1 = known_at_1() + [fill(1, 100), pay(1, 10)]
CLOSED = PAID_BY_1 + [query(0, 10), deliver(2), deliver(3)]


class Refusals(unittest.TestCase):
    def test_no_such_message(self):
        for m in (-FAR, -1, 1, FAR):
            self.assertEqual(last(begin(), present(1, 10), deliver(m)), [-5])

    def test_a_lost_one(self):
        self.assertEqual(last(*GRANTED_TO_1, lose(1), deliver(1)), [-4])

    def test_an_office_that_is_down(self):
        self.assertEqual(last(begin(), present(1, 10), issue(0, cut=3), deliver(0)), [-6])
        self.assertEqual(last(*GRANTED_TO_1, issue(1, cut=1), deliver(1)), [-6])

    def test_from_an_office_that_is_down(self):
        self.assertEqual(last(begin(), issue(0), present(1, 10), issue(1, cut=3), deliver(0)), [1, 1, 1])

    def test_every_kind_to_an_office_that_is_down(self):
        for kind in range(1, 7):
            world = world_after(begin(), issue(0), issue(2, cut=3))
            world.send(Message(kind, 10, 1, 0, 2, 7, 60))
            before = plain(world)
            self.assertEqual(do(world, deliver(0)), [-6])
            self.assertEqual(plain(world), before)

    def test_three_hundred_messages_whatever_the_kind(self):
        for kind in range(1, 7):
            world = world_after(*known_at_1(), *[present(1, 10)] * 297)
            self.assertEqual(world.send(Message(kind, 10, 1, 1, 0, 7, 60)), 299)
            before = plain(world)
            self.assertEqual(do(world, deliver(299)), [-9])
            self.assertEqual(plain(world), before)

    def test_the_three_hundredth_may_still_be_sent(self):
        line = [begin(), issue(0)] + [present(1, 10)] * 299
        self.assertEqual(told(*line, deliver(298), deliver(299), deliver(0))[-3:], [[1, 1, 299], [-9], [-9]])

    def test_the_order_of_refusals(self):
        many = [present(1, 10)] * 300
        self.assertEqual(last(begin(), *many, deliver(300)), [-5])
        self.assertEqual(last(begin(), *many, lose(7), deliver(7)), [-4])
        self.assertEqual(last(begin(), *many, issue(0, cut=3), deliver(7)), [-6])
        self.assertEqual(last(begin(), *many, lose(7), issue(0, cut=3), deliver(7)), [-4])


class MayI(unittest.TestCase):
    def answered(self, *line):
        """The last message of the line is asked; what the answer's fields are, behind what deliver answered."""
        world = world_after(*line)
        number = len(world.messages)
        found = do(world, deliver(number - 1))
        self.assertEqual((found[0], found[2]), (1, number))
        return found[1], fields(world.messages[number])

    def test_granted_till_the_clocks_time_plus_the_lease(self):
        line = [begin(lease=60), pass_on(9), clock(0, -30), clock(1, 500), issue(0, 42)]
        self.assertEqual(self.answered(*line, present(1, 10)),
                         (1, (2, 10, 1, 0, 1, 42, 39, False)))

    def test_a_till_below_0(self):
        self.assertEqual(self.answered(begin(lease=60), clock(0, -100), issue(0), present(1, 10))[1][6], -40)

    def test_no_such_order(self):
        refused = (0, (3, 10, 0, 0, 1, 0, 0, False))
        self.assertEqual(self.answered(begin(), present(1, 10)), refused)
        self.assertEqual(self.answered(begin(), issue(1), present(1, 10)), refused)
        for n in (0, 20, 100, 100000):
            self.assertEqual(self.answered(begin(), issue(0), present(1, n)), (0, (3, n, 0, 0, 1, 0, 0, False)))

    def test_another_key(self):
        for key in (0, 6, 8, 9999):
            self.assertEqual(self.answered(begin(), issue(0, key=7), present(1, 10, key)),
                             (0, (3, 10, 0, 0, 1, 0, 0, False)))

    def test_another_key_for_a_grant_that_stands(self):
        self.assertEqual(self.answered(*GRANTED_TO_1, present(1, 10, 8)), (0, (3, 10, 0, 0, 1, 0, 0, False)))

    def test_closed(self):
        for p in (0, 1, 2):
            self.assertEqual(self.answered(*CLOSED, present(p, 10)), (0, (3, 10, 0, 0, p, 0, 0, False)))

    def test_refunded(self):
        world = world_after(begin(), issue(0), present(1, 10))
        office = world.offices[0]
        office.perform(Act(REFUNDING, 10, -100, office.orders[10]), 0)
        self.assertEqual((office.drawer, office.book()), (5, 5))
        self.assertEqual(do(world, deliver(0)), [1, 0, 1])
        self.assertEqual(world.messages[1].kind, 3)

    def test_a_refund_that_was_cut_is_no_refund(self):
        for cut, drawer in ((1, 105), (2, 5), (3, 105)):
            world = world_after(begin(), issue(0), present(1, 10))
            office = world.offices[0]
            office.perform(Act(REFUNDING, 10, -100, office.orders[10]), cut)
            self.assertEqual((office.drawer, office.book(), office.up), (drawer, 105, False))
            office.up = True
            do(world, deliver(0))
            self.assertEqual(world.messages[1].kind, 2)

    def test_again_to_who_has_the_grant(self):
        again = (0, (2, 10, 1, 0, 1, 100, 60, False))
        self.assertEqual(self.answered(*GRANTED_TO_1, present(1, 10)), again)
        self.assertEqual(self.answered(*GRANTED_TO_1, pass_on(59), present(1, 10)), again)
        self.assertEqual(self.answered(*GRANTED_TO_1, pass_on(61), present(1, 10)), again)
        self.assertEqual(self.answered(*GRANTED_TO_1, pass_on(5000), present(1, 10)), again)
        self.assertEqual(self.answered(*PAID_BY_1, present(1, 10)), again)

    def test_not_to_another_while_it_stands(self):
        for p in (0, 2):
            refused = (0, (3, 10, 0, 0, p, 0, 0, False))
            self.assertEqual(self.answered(*GRANTED_TO_1, present(p, 10)), refused)
            self.assertEqual(self.answered(*GRANTED_TO_1, pass_on(61), present(p, 10)), refused)
            self.assertEqual(self.answered(*PAID_BY_1, pass_on(61), present(p, 10)), refused)
            self.assertEqual(self.answered(*known_at_1(), giveup(1, 10), present(p, 10)), refused)

    def test_anew_when_it_was_given_back(self):
        for p in (0, 1, 2):
            self.assertEqual(self.answered(*known_at_1(), giveup(1, 10), deliver(2), pass_on(4), present(p, 10)),
                             (1, (2, 10, 2, 0, p, 100, 64, False)))

    def test_not_anew_when_it_is_out_of_date(self):
        line = known_at_1() + [giveup(1, 10), deliver(2)]
        self.assertEqual(self.answered(*line, pass_on(999), present(1, 10))[0], 1)
        for passed in (1000, 1001):
            self.assertEqual(self.answered(*line, pass_on(passed), present(1, 10)),
                             (0, (3, 10, 0, 0, 1, 0, 0, False)))

    def test_the_orders_own_office(self):
        self.assertEqual(self.answered(begin(), issue(0), present(0, 10)), (1, (2, 10, 1, 0, 0, 100, 60, False)))

    def test_delivered_twice(self):
        self.assertEqual(told(begin(), issue(0), present(1, 10), deliver(0), deliver(0), deliver(0))[3:],
                         [[1, 1, 1], [1, 0, 2], [1, 0, 3]])

    def test_delivered_late_it_is_a_new_asking(self):
        line = known_at_1() + [giveup(1, 10), deliver(2)]
        self.assertEqual(told(*line, deliver(0), deliver(3), fill(1, 100), pay(1, 10))[-4:],
                         [[1, 1, 3], [0, 1, -1], [100], [100]])

    def test_two_offices_ask_at_once(self):
        line = [begin(), issue(0), present(1, 10), present(2, 10)]
        self.assertEqual(told(*line, deliver(1), deliver(0), deliver(2), deliver(3))[4:],
                         [[1, 1, 2], [1, 0, 3], [0, 1, -1], [0, 0, -1]])


class YouMay(unittest.TestCase):
    def test_written_down_once(self):
        self.assertEqual(told(*GRANTED_TO_1, deliver(1), deliver(1), deliver(1))[4:],
                         [[0, 1, -1], [0, 0, -1], [0, 0, -1]])

    def test_told_twice_in_two_messages(self):
        self.assertEqual(told(*GRANTED_TO_1, deliver(0), deliver(2), deliver(1))[4:],
                         [[1, 0, 2], [0, 1, -1], [0, 0, -1]])

    def test_nothing_when_it_was_given_up(self):
        line = known_at_1() + [giveup(1, 10)]
        self.assertEqual(told(*line, deliver(1), pay(1, 10))[-2:], [[0, 0, -1], [-3]])

    def test_nothing_when_it_was_given_up_before_it_was_known(self):
        line = GRANTED_TO_1 + [query(0, 10), deliver(2), fill(1, 100)]
        self.assertEqual(told(*line, deliver(1), pay(1, 10))[-2:], [[0, 0, -1], [-3]])

    def test_nothing_when_it_was_paid(self):
        self.assertEqual(told(*PAID_BY_1, deliver(1), fill(1, 500), pay(1, 10))[-3:], [[0, 0, -1], [500], [-3]])

    def test_an_old_one_that_comes_late(self):
        line = GRANTED_TO_1 + [query(0, 10), deliver(2), deliver(3), pass_on(5), present(1, 10), deliver(4), deliver(5)]
        found = told(*line, deliver(1), fill(1, 100), pay(1, 10))
        self.assertEqual(found[4:], [[2], [1, 1, 3], [0, 1, -1], [5], [4], [1, 1, 5], [0, 1, -1],
                                     [0, 0, -1], [100], [100]])

    def test_is_known_even_if_its_time_is_over(self):
        self.assertEqual(told(*GRANTED_TO_1, pass_on(70), deliver(1), fill(1, 100), pay(1, 10))[5:],
                         [[0, 1, -1], [100], [-4]])

    def test_coins_and_till_are_those_of_the_message(self):
        world = world_after(*known_at_1())
        claim = world.offices[1].payable(10)
        self.assertEqual((claim.grant, claim.coins, claim.till), (1, 100, 60))


class No(unittest.TestCase):
    def test_nothing_at_all(self):
        world = world_after(begin(), issue(0), present(1, 10, 8), deliver(0))
        before = plain(world)
        self.assertEqual(do(world, deliver(1)), [0, 0, -1])
        self.assertEqual(do(world, deliver(1)), [0, 0, -1])
        self.assertEqual(plain(world), before)

    def test_nothing_to_a_grant_that_is_known(self):
        line = [begin(), issue(0), present(1, 10, 8), deliver(0), present(1, 10), deliver(2), deliver(3), fill(1, 100)]
        self.assertEqual(told(*line, deliver(1), pay(1, 10))[-2:], [[0, 0, -1], [100]])


class IPaid(unittest.TestCase):
    LINE = PAID_BY_1 + [query(0, 10), deliver(2)]

    def test_its_answer_is_kind_4(self):
        self.assertEqual(fields(world_after(*self.LINE).messages[3]), (4, 10, 1, 1, 0, 0, 0, False))

    def test_closed_once(self):
        self.assertEqual(told(*self.LINE, deliver(3), deliver(3), query(0, 10))[-3:], [[0, 1, -1], [0, 0, -1], [-3]])

    def test_told_in_two_messages(self):
        self.assertEqual(told(*self.LINE, deliver(2), deliver(4), deliver(3))[-3:],
                         [[1, 0, 4], [0, 1, -1], [0, 0, -1]])

    def test_late_and_out_of_date(self):
        self.assertEqual(told(*self.LINE, pass_on(100000), deliver(3))[-1], [0, 1, -1])

    def test_not_closed_before_it_comes(self):
        self.assertEqual(last(*self.LINE, query(0, 10)), [4])
        self.assertEqual(last(*self.LINE, lose(3), query(0, 10)), [4])

    def test_only_of_the_very_grant_that_stands(self):
        line = known_at_1() + [giveup(1, 10), deliver(2), present(2, 10), deliver(3)]
        for kind in (4, 5):
            for n, grant, sender in ((10, 1, 2), (10, 2, 1), (10, 2, 0), (10, 3, 2), (10, 0, 2), (20, 2, 2), (0, 2, 2)):
                world = world_after(*line)
                m = world.send(Message(kind, n, grant, sender, 0, 0, 0))
                before = plain(world)
                self.assertEqual(do(world, deliver(m)), [0, 0, -1])
                self.assertEqual(plain(world), before)
            world = world_after(*line)
            m = world.send(Message(kind, 10, 2, 2, 0, 0, 0))
            self.assertEqual(do(world, deliver(m)), [0, 1, -1])

    def test_nothing_when_no_grant_stands(self):
        for kind in (4, 5):
            for line in ([begin(), issue(0)], known_at_1() + [giveup(1, 10), deliver(2)]):
                world = world_after(*line)
                m = world.send(Message(kind, 10, 1, 1, 0, 0, 0))
                self.assertEqual(do(world, deliver(m)), [0, 0, -1])

    def test_nothing_when_it_is_closed(self):
        for kind in (4, 5):
            world = world_after(*CLOSED)
            m = world.send(Message(kind, 10, 1, 1, 0, 0, 0))
            self.assertEqual(do(world, deliver(m)), [0, 0, -1])

    def test_only_that_order_is_closed(self):
        line = [begin(), issue(0), issue(0), present(1, 10), present(1, 20), deliver(0), deliver(1), deliver(2),
                deliver(3), fill(1, 500), pay(1, 20), query(0, 20), deliver(4), deliver(5)]
        self.assertEqual(told(*line, query(0, 20), query(0, 10), pay(1, 10))[-3:], [[-3], [6], [100]])


class Never(unittest.TestCase):
    LINE = known_at_1() + [giveup(1, 10)]

    def test_given_back_once(self):
        self.assertEqual(told(*self.LINE, query(0, 10), deliver(2), deliver(2), query(0, 10))[-4:],
                         [[3], [0, 1, -1], [0, 0, -1], [-3]])

    def test_an_old_one_leaves_the_next_grant_standing(self):
        line = self.LINE + [deliver(2), present(1, 10), deliver(3), deliver(4)]
        self.assertEqual(told(*line, deliver(2), query(0, 10), fill(1, 100), pay(1, 10))[-4:],
                         [[0, 0, -1], [5], [100], [100]])

    def test_lost_the_grant_stands(self):
        self.assertEqual(told(*self.LINE, lose(2), deliver(2), query(0, 10), deliver(3), deliver(4))[-5:],
                         [[0], [-4], [3], [1, 0, 4], [0, 1, -1]])


class DidYou(unittest.TestCase):
    def test_paid_is_answered_by_4(self):
        line = PAID_BY_1 + [query(0, 10)]
        self.assertEqual(told(*line, deliver(2), deliver(2))[-2:], [[1, 0, 3], [1, 0, 4]])
        self.assertEqual(told(*line, pass_on(5000), deliver(2))[-1], [1, 0, 3])
        world = world_after(*line, pass_on(60), deliver(2))
        self.assertEqual(fields(world.messages[3]), (4, 10, 1, 1, 0, 0, 0, False))

    def test_given_up_is_answered_by_5(self):
        for passed in (0, 60):
            line = known_at_1() + [giveup(1, 10), query(0, 10), pass_on(passed)]
            self.assertEqual(told(*line, deliver(3), deliver(3))[-2:], [[1, 0, 4], [1, 0, 5]])
            world = world_after(*line, deliver(3))
            self.assertEqual(fields(world.messages[4]), (5, 10, 1, 1, 0, 0, 0, False))

    def test_known_with_time_left_is_not_answered(self):
        line = known_at_1() + [query(0, 10), fill(1, 100)]
        self.assertEqual(told(*line, deliver(2), deliver(2), pay(1, 10))[-3:], [[0, 0, -1], [0, 0, -1], [100]])

    def test_the_till_at_just_the_minute_one_before_and_one_behind(self):
        for offset in (0, 40, -40, 100000, -100000):
            line = [begin(lease=60), clock(0, offset), clock(1, offset)] + known_at_1()[1:] + [query(0, 10)]
            self.assertEqual(told(*line, pass_on(59), deliver(2))[-1], [0, 0, -1])
            self.assertEqual(told(*line, pass_on(60), deliver(2), deliver(2))[-2:], [[1, 1, 3], [1, 0, 4]])
            self.assertEqual(told(*line, pass_on(61), deliver(2), deliver(2))[-2:], [[1, 1, 3], [1, 0, 4]])

    def test_by_the_asked_offices_clock(self):
        line = known_at_1() + [query(0, 10), pass_on(100)]
        self.assertEqual(told(*line, clock(1, -41), deliver(2))[-1], [0, 0, -1])
        self.assertEqual(told(*line, clock(1, -40), deliver(2))[-1], [1, 1, 3])
        self.assertEqual(told(*line, clock(0, -100), deliver(2))[-1], [1, 1, 3])

    def test_over_it_is_given_up_for_good(self):
        line = known_at_1() + [fill(1, 100), query(0, 10), pass_on(60), deliver(2)]
        self.assertEqual(told(*line, clock(1, -60), pay(1, 10), giveup(1, 10))[-2:], [[-3], [-3]])
        world = world_after(*line)
        self.assertEqual(fields(world.messages[3]), (5, 10, 1, 1, 0, 0, 0, False))
        self.assertEqual(do(world, deliver(3)), [0, 1, -1])
        self.assertEqual(do(world, query(0, 10)), [-3])

    def test_not_known_it_is_given_up(self):
        line = GRANTED_TO_1 + [query(0, 10)]
        self.assertEqual(told(*line, deliver(2), deliver(2), deliver(1))[-3:], [[1, 1, 3], [1, 0, 4], [0, 0, -1]])
        world = world_after(*line, deliver(2))
        self.assertEqual(fields(world.messages[3]), (5, 10, 1, 1, 0, 0, 0, False))

    def test_not_known_it_is_given_up_whatever_the_clock_shows(self):
        for z in (-100000, -1, 0, 59, 60, 100000):
            self.assertEqual(told(*GRANTED_TO_1, query(0, 10), clock(1, z), deliver(2))[-1], [1, 1, 3])

    def test_of_an_old_grant_while_another_is_known(self):
        line = known_at_1() + [query(0, 10), giveup(1, 10), deliver(3), present(1, 10), deliver(4), deliver(5),
                               fill(1, 100)]
        self.assertEqual(told(*line, deliver(2), pay(1, 10), deliver(2))[-3:], [[1, 0, 6], [100], [1, 0, 7]])
        world = world_after(*line, pay(1, 10), deliver(2))
        self.assertEqual(fields(world.messages[6]), (5, 10, 1, 1, 0, 0, 0, False))

    def test_at_the_orders_own_office(self):
        line = [begin(), issue(0), present(0, 10), deliver(0), deliver(1), pay(0, 10)]
        self.assertEqual(told(*line, query(0, 10), deliver(2), deliver(3), query(0, 10))[-4:],
                         [[2], [1, 0, 3], [0, 1, -1], [-3]])

    def test_a_payment_that_was_cut_is_answered_only_by_an_office_that_is_up(self):
        for cut in (1, 2, 3):
            line = known_at_1() + [fill(1, 100), query(0, 10), pay(1, 10, cut), pass_on(100)]
            self.assertEqual(told(*line, deliver(2))[-1], [-6])


if __name__ == "__main__":
    unittest.main()

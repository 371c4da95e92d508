import unittest

from tests.helper import (
    FAR, begin, clock, closed_by_1, count, cut, deliver, do, fill, given_back_by_1, giveup, go_round, granted_to_1,
    issue, known_at_1, last, office, order, order_row, paid_at_1, pass_on, pay, plain, present, query, refund, tell,
    told, world_after)


class Office(unittest.TestCase):
    def test_a_new_one(self):
        self.assertEqual(told(begin(2), office(0), office(1))[1:], [[1, 4, 0, 0, 0, 0, 0], [1, 4, 0, 0, 0, 0, 0]])

    def test_orders_none_one_and_several(self):
        line = [begin(fee=5), fill(0, 7)]
        self.assertEqual(last(*line, office(0)), [1, 4, 7, 7, 0, 1, 0])
        self.assertEqual(last(*line, issue(0, 10), office(0)), [1, 4, 22, 22, 0, 3, 1, 10])
        self.assertEqual(last(*line, issue(0, 10), issue(1, 9), issue(0, 20), issue(0, 30), office(0)),
                         [1, 4, 82, 82, 0, 7, 3, 10, 20, 30])
        self.assertEqual(last(*line, issue(0, 10), issue(2, 9), office(2)), [1, 4, 14, 14, 0, 2, 1, 12])

    def test_a_hundred_orders(self):
        line = [begin(fee=0)] + [issue(1, 1) for number in range(100)]
        self.assertEqual(last(*line, office(1)), [1, 4, 100, 100, 0, 200, 100] + list(range(11, 1002, 10)))

    def test_only_orders_whose_issue_was_done(self):
        line = [begin(fee=5), issue(0), issue(0, cut=1), count(0), issue(0, cut=2), count(0), issue(0, cut=3), count(0),
                issue(0), issue(0, cut=2)]
        self.assertEqual(told(*line, office(0), count(0), office(0))[-3:],
                         [[0, 4, 420, 315, 0, 9, 3, 10, 30, 40], [3, 420, 420],
                          [1, 4, 420, 420, 0, 10, 4, 10, 30, 40, 50]])

    def test_refunded_and_closed_orders_stay(self):
        self.assertEqual(last(begin(), issue(0), issue(0), refund(0, 10), office(0)),
                         [1, 4, 110, 110, 0, 6, 2, 10, 20])
        self.assertEqual(last(*closed_by_1(), office(0)), [1, 4, 105, 105, 0, 4, 1, 10])

    def test_what_its_clock_shows(self):
        line = [begin(), pass_on(30), clock(0, -100), clock(1, 100)]
        self.assertEqual(told(*line, office(0), office(1), office(2), pass_on(5), office(0))[-5:],
                         [[1, 4, 0, 0, -70, 0, 0], [1, 4, 0, 0, 130, 0, 0], [1, 4, 0, 0, 30, 0, 0], [35],
                          [1, 4, 0, 0, -65, 0, 0]])

    def test_down_and_up(self):
        self.assertEqual([answer[0] for answer in told(begin(), office(0), cut(0), office(0), count(0), office(0))[1:]],
                         [1, 0, 0, 0, 1])

    def test_how_many_records_each_call_writes(self):
        """At offices 0 and 1, behind each of these calls."""
        line = [(begin(), 0, 0), (fill(1, 500), 0, 1), (issue(0), 2, 1), (present(1, 10), 2, 1), (deliver(0), 3, 1),
                (deliver(1), 3, 2), (deliver(1), 3, 2), (clock(1, 5), 3, 2), (pass_on(1), 3, 2), (query(0, 10), 3, 2),
                (giveup(1, 10), 3, 3), (deliver(3), 4, 3), (present(1, 10), 4, 3), (deliver(4), 5, 3),
                (deliver(5), 5, 4), (pay(1, 10, 1), 5, 5), (count(1), 5, 6), (pay(1, 10, 3), 5, 6), (count(1), 5, 6),
                (pay(1, 10), 5, 8), (tell(1, 10, 2), 5, 8), (deliver(6), 6, 8), (issue(0), 8, 8), (cut(0), 8, 8),
                (count(0), 8, 8), (refund(0, 20, 2), 9, 8), (count(0), 10, 8), (go_round(), 10, 8)]
        world = world_after()
        for call, at_0, at_1 in line:
            self.assertGreaterEqual(do(world, call)[0], 0, call)
            self.assertEqual((do(world, office(0))[5], do(world, office(1))[5]), (at_0, at_1), call)

    def test_no_such_office(self):
        for o in (-FAR, -1, 3, FAR):
            self.assertEqual(last(begin(3), office(o)), [-5])
        self.assertEqual(last(begin(5), office(4)), [1, 4, 0, 0, 0, 0, 0])
        self.assertEqual(last(office(0)), [-5])

    def test_changes_nothing(self):
        world = world_after(*paid_at_1(2))
        before = plain(world)
        for o in (0, 1, 2, 3):
            do(world, office(o))
        self.assertEqual(plain(world), before)


class Order(unittest.TestCase):
    def test_0_not_there(self):
        for n in (0, 10, 11, 12, 1000, 100000, 99991):
            self.assertEqual(last(begin(3), order(n)), [0])
        self.assertEqual(told(begin(3), issue(0), order(20), order(11), order(100), order(0))[2:], [[0], [0], [0], [0]])
        for at in (1, 2, 3):
            self.assertEqual(last(begin(), issue(0, cut=at), order(10)), [0])

    def test_1_open(self):
        self.assertEqual(last(begin(), issue(0), order(10)), [1, 3, 100, 1000, 0, 0])
        self.assertEqual(last(begin(), issue(2, 1000000), order(12)), [1, 3, 1000000, 1000, 0, 0])
        self.assertEqual(last(begin(), issue(0), present(1, 10), order(10)), [1, 3, 100, 1000, 0, 0])
        self.assertEqual(last(*given_back_by_1(), order(10)), [1, 3, 100, 1000, 1, 0])

    def test_2_a_grant_stands(self):
        standing = [2, 3, 100, 1000, 1, 3, 1, 1, 60]
        for line in (granted_to_1(), known_at_1(), paid_at_1(), known_at_1() + [giveup(1, 10)],
                     known_at_1() + [pass_on(5000)], granted_to_1() + [cut(0)]):
            self.assertEqual(last(*line, order(10)), standing)
        self.assertEqual(last(begin(), issue(0), present(0, 10), deliver(0), order(10)),
                         [2, 3, 100, 1000, 1, 3, 0, 1, 60])

    def test_3_closed(self):
        self.assertEqual(last(*closed_by_1(), order(10)), [3, 3, 100, 1000, 1, 3, 1, 1, 60])

    def test_4_refunded(self):
        self.assertEqual(last(begin(), issue(0), refund(0, 10), order(10)), [4, 3, 100, 1000, 0, 0])
        self.assertEqual(last(*given_back_by_1(), refund(0, 10), order(10)), [4, 3, 100, 1000, 1, 0])

    def test_4_ahead_of_3(self):
        world = world_after(*closed_by_1())
        world.offices[0].orders[10].refunded = True
        self.assertEqual(do(world, order(10)), [4, 3, 100, 1000, 1, 3, 1, 1, 60])

    def test_several_grants(self):
        line = given_back_by_1() + [pass_on(5), present(2, 10), deliver(3)]
        self.assertEqual(last(*line, order(10)), order_row(2, 2, 2, 2, 65))
        line += [go_round()]
        self.assertEqual(told(*line, order(10), deliver(0), order(10))[-3:],
                         [order_row(1, 2), [1, 1, 5], order_row(2, 3, 1, 3, 65)])

    def test_times_below_0(self):
        line = [begin(life=10, lease=20), clock(0, -500), issue(0), pass_on(3), present(1, 10), deliver(0)]
        self.assertEqual(last(*line, order(10)), [2, 3, 100, -490, 1, 3, 1, 1, -477])

    def test_out_of_date_it_is_still_open(self):
        self.assertEqual(last(begin(), issue(0), pass_on(5000), order(10)), order_row(1, 0))

    def test_both_edges_of_the_number(self):
        for n in (-FAR, -1, 100001, FAR):
            self.assertEqual(last(begin(), order(n)), [-12])

    def test_no_such_office(self):
        for n in (3, 13, 19, 99999):
            self.assertEqual(last(begin(3), order(n)), [-5])
        self.assertEqual(last(begin(4), order(13)), [0])
        self.assertEqual(last(order(10)), [-5])

    def test_the_order_of_refusals(self):
        self.assertEqual(last(begin(3), order(100009)), [-12])
        self.assertEqual(last(begin(3), order(-1)), [-12])
        self.assertEqual(told(order(-1), order(100001), order(0), order(100000)), [[-12], [-12], [-5], [-5]])

    def test_changes_nothing(self):
        world = world_after(*closed_by_1())
        before = plain(world)
        for n in (-1, 10, 20, 11, 13):
            do(world, order(n))
        self.assertEqual(plain(world), before)


if __name__ == "__main__":
    unittest.main()

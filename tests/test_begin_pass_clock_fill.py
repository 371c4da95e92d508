import unittest

from tests.helper import (
    FAR, begin, clock, deliver, do, fill, issue, known_at_1, last, lose, pass_on, pay, plain, present, query, told,
    world_after)

MOST = 10 ** 9


class Begin(unittest.TestCase):
    def test_answers_0(self):
        self.assertEqual(told(begin()), [[0]])

    def test_both_edges_of_each_range(self):
        for number in (1, 2, 3, 4, 5):
            self.assertEqual(last(begin(offices=number)), [0])
        for number in (0, 1, 1000):
            self.assertEqual(last(begin(fee=number)), [0])
        for number in (1, 2, 1000000):
            self.assertEqual(last(begin(life=number)), [0])
            self.assertEqual(last(begin(lease=number)), [0])
        for number in (-FAR, -1, 0, 6, FAR):
            self.assertEqual(last(begin(offices=number)), [-12])
        for number in (-FAR, -1, 1001, FAR):
            self.assertEqual(last(begin(fee=number)), [-12])
        for number in (-FAR, -1, 0, 1000001, FAR):
            self.assertEqual(last(begin(life=number)), [-12])
            self.assertEqual(last(begin(lease=number)), [-12])

    def test_so_many_offices_are_there(self):
        for number in range(1, 6):
            self.assertEqual(last(begin(offices=number), fill(number - 1, 1)), [1])
            self.assertEqual(last(begin(offices=number), fill(number, 1)), [-5])

    def test_a_second_begin_makes_all_new(self):
        line = known_at_1() + [fill(1, 500), fill(2, 40), clock(2, 9), pass_on(5), issue(0, cut=1)]
        line += [begin(2, 0, 50, 20)]
        self.assertEqual(told(*line, pass_on(0))[-1], [0])
        self.assertEqual(told(*line, fill(0, 1), fill(1, 2))[-2:], [[1], [2]])
        self.assertEqual(told(*line, fill(2, 1))[-1], [-5])
        self.assertEqual(told(*line, deliver(0), lose(1))[-2:], [[-5], [-5]])
        self.assertEqual(told(*line, pay(1, 10), query(0, 10))[-2:], [[-3], [-3]])
        self.assertEqual(told(*line, issue(0), present(1, 10))[-2:], [[10], [0]])

    def test_a_second_begin_is_like_a_first(self):
        again = world_after(*known_at_1(), fill(1, 500), clock(2, 9), pass_on(5), issue(0, cut=1), begin(2, 0, 50, 20))
        self.assertEqual(plain(again), plain(world_after(begin(2, 0, 50, 20))))
        do(again, clock(1, 4))
        self.assertEqual([office.offset for office in again.offices], [0, 4])

    def test_a_refused_begin_leaves_all_as_it_was(self):
        line = known_at_1() + [fill(1, 500), begin(offices=6), begin(fee=-1), begin(life=0), begin(lease=0)]
        self.assertEqual(told(*line, pay(1, 10), fill(2, 1))[-2:], [[100], [1]])


class Pass(unittest.TestCase):
    def test_answers_the_time_then(self):
        self.assertEqual(told(begin(), pass_on(10), pass_on(0), pass_on(5)), [[0], [10], [10], [15]])

    def test_both_edges(self):
        self.assertEqual(told(begin(), pass_on(0), pass_on(1000000)), [[0], [0], [1000000]])
        for n in (-FAR, -1, 1000001, FAR):
            self.assertEqual(told(begin(), pass_on(3), pass_on(n), pass_on(0))[2:], [[-12], [3]])

    def test_the_time_is_at_most_a_thousand_million(self):
        world = world_after(begin())
        world.time = MOST - 5
        self.assertEqual(do(world, pass_on(6)), [-12])
        self.assertEqual(do(world, pass_on(5)), [MOST])
        self.assertEqual(do(world, pass_on(1)), [-12])
        self.assertEqual(do(world, pass_on(0)), [MOST])


class Clock(unittest.TestCase):
    def test_answers_what_it_shows_then(self):
        self.assertEqual(told(begin(), pass_on(10), clock(0, 5), clock(0, 7), clock(1, -11), clock(2, 0))[2:],
                         [[0, 15], [0, 17], [0, -1], [0, 10]])

    def test_both_edges_of_the_offset(self):
        self.assertEqual(told(begin(), clock(0, 100000), clock(0, -100000))[1:], [[0, 100000], [0, -100000]])
        for z in (-FAR, -100001, 100001, FAR):
            self.assertEqual(last(begin(), clock(0, z)), [-12])

    def test_no_such_office_goes_ahead(self):
        for o in (-FAR, -1, 3, FAR):
            self.assertEqual(last(begin(), clock(o, 0)), [-5])
            self.assertEqual(last(begin(), clock(o, FAR)), [-5])

    def test_a_down_offices_clock_is_set_too(self):
        self.assertEqual(last(begin(), pass_on(4), issue(0, cut=3), clock(0, 8)), [0, 12])

    def test_each_office_has_its_own_offset(self):
        line = [begin(lease=60), issue(0), clock(1, 60), present(1, 10), deliver(0), deliver(1), fill(1, 100)]
        self.assertEqual(told(*line, pay(1, 10), clock(1, 59), pay(1, 10))[-3:], [[-4], [0, 59], [100]])

    def test_a_refusal_leaves_the_offset(self):
        world = world_after(begin(), clock(1, 6), clock(1, 100001))
        self.assertEqual([office.offset for office in world.offices], [0, 6, 0])


class Fill(unittest.TestCase):
    def test_answers_what_is_in_the_drawer_then(self):
        self.assertEqual(told(begin(), fill(0, 3), fill(1, 5), fill(0, 4)), [[0], [3], [5], [7]])

    def test_issues_are_in_the_drawer_with_their_fee(self):
        self.assertEqual(last(begin(fee=5), fill(0, 3), issue(0, 100), fill(0, 1)), [109])

    def test_it_is_written_down(self):
        world = world_after(begin(), fill(1, 9), fill(1, 2))
        self.assertEqual([len(office.journal) for office in world.offices], [0, 2, 0])
        self.assertEqual([office.book() for office in world.offices], [0, 11, 0])

    def test_both_edges(self):
        self.assertEqual(last(begin(), fill(0, 1)), [1])
        self.assertEqual(last(begin(), fill(0, MOST)), [MOST])
        for n in (-FAR, -1, 0, MOST + 1, FAR):
            self.assertEqual(told(begin(), fill(0, n), fill(0, 1))[1:], [[-12], [1]])

    def test_all_drawers_together_have_at_most_a_thousand_million(self):
        line = [begin(fee=5), fill(0, MOST - 200), issue(1, 100)]
        self.assertEqual(told(*line, fill(2, 96), fill(2, 95), fill(0, 1))[-3:], [[-8], [95], [-8]])

    def test_a_down_offices_drawer_counts_too(self):
        line = [begin(fee=5), fill(0, MOST - 200), issue(0, 100, cut=2)]
        self.assertEqual(told(*line, fill(1, 96), fill(1, 95))[-2:], [[-8], [95]])

    def test_the_order_of_refusals(self):
        for o in (-FAR, -1, 3, FAR):
            self.assertEqual(last(begin(), fill(o, 0)), [-5])
        self.assertEqual(last(begin(), issue(0, cut=3), fill(0, 0)), [-6])
        self.assertEqual(last(begin(), issue(0, cut=3), fill(0, 1)), [-6])
        self.assertEqual(last(begin(), fill(0, MOST), fill(0, 0)), [-12])
        self.assertEqual(last(begin(), fill(0, MOST), fill(0, MOST + 1)), [-12])
        self.assertEqual(last(begin(), fill(0, MOST), fill(0, MOST)), [-8])


if __name__ == "__main__":
    unittest.main()

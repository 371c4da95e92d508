import unittest

from tests.helper import FAR, begin, clock, deliver, do, fill, issue, last, pass_on, plain, present, told, world_after

MOST = 10 ** 9


class Issue(unittest.TestCase):
    def test_numbers_count_each_offices_issues_and_end_in_the_office(self):
        self.assertEqual(told(begin(5), issue(0), issue(0), issue(4), issue(0), issue(4), issue(1))[1:],
                         [[10], [20], [14], [30], [24], [11]])

    def test_both_edges_of_the_coins(self):
        self.assertEqual(last(begin(), issue(0, coins=1)), [10])
        self.assertEqual(last(begin(), issue(0, coins=1000000)), [10])
        for coins in (-FAR, -1, 0, 1000001, FAR):
            self.assertEqual(told(begin(), issue(0, coins=coins), issue(0))[1:], [[-12], [10]])

    def test_both_edges_of_the_key(self):
        self.assertEqual(last(begin(), issue(0, key=0)), [10])
        self.assertEqual(last(begin(), issue(0, key=9999)), [10])
        for key in (-FAR, -1, 10000, FAR):
            self.assertEqual(told(begin(), issue(0, key=key), issue(0))[1:], [[-12], [10]])

    def test_both_edges_of_the_cut(self):
        for cut in (-FAR, -1, 4, FAR):
            self.assertEqual(told(begin(), issue(0, cut=cut), issue(0))[1:], [[-12], [10]])

    def test_the_answer_is_the_same_whatever_cut_came(self):
        for cut in (0, 1, 2, 3):
            self.assertEqual(last(begin(), issue(1), issue(1, cut=cut)), [21])

    def test_the_office_is_down_unless_there_was_no_cut(self):
        self.assertEqual(last(begin(fee=5), issue(0, 100), fill(0, 1)), [106])
        for cut in (1, 2, 3):
            self.assertEqual(told(begin(), issue(0, cut=cut), fill(0, 1), fill(1, 1))[2:], [[-6], [1]])

    def test_the_cash_is_in_the_drawer_unless_the_cut_came_ahead_of_it(self):
        for cut, cash in ((0, 105), (1, 0), (2, 105), (3, 0)):
            line = [begin(fee=5), issue(0, 100, cut=cut)]
            self.assertEqual(told(*line, fill(1, MOST - cash + 1), fill(1, MOST - cash))[2:],
                             [[-8 if cash else -12], [MOST - cash]])

    def test_what_is_written_down_at_each_cut(self):
        for cut, records, book in ((0, 2, 105), (1, 1, 0), (2, 1, 0), (3, 0, 0)):
            office = world_after(begin(fee=5), issue(0, 100, cut=cut)).offices[0]
            self.assertEqual((len(office.journal), office.book()), (records, book))
            self.assertEqual(list(office.orders), [10] if cut == 0 else [])

    def test_only_an_issue_cut_ahead_of_all_leaves_its_number_to_the_next(self):
        for cut, number in ((1, 20), (2, 20), (3, 10)):
            world = world_after(begin(), issue(0, cut=cut))
            world.offices[0].up = True
            self.assertEqual(do(world, issue(0)), [number])

    def test_an_issue_that_came_to_nothing_is_not_there(self):
        for cut in (1, 2, 3):
            world = world_after(begin(), issue(0, cut=cut))
            world.offices[0].up = True
            do(world, present(1, 10))
            self.assertEqual(do(world, deliver(0)), [1, 0, 1])
            self.assertEqual(world.messages[1].kind, 3)

    def test_drawers_together_with_coins_and_fee(self):
        line = [begin(fee=5), fill(1, MOST - 104)]
        self.assertEqual(told(*line, issue(0, 100), issue(0, 99), issue(0, 1))[2:], [[-8], [10], [-8]])
        for cut in (0, 1, 2, 3):
            self.assertEqual(last(*line, issue(0, 100, cut=cut)), [-8])

    def test_a_hundred_issues_of_an_office(self):
        line = [begin()] + [issue(1) for number in range(100)]
        found = told(*line, issue(1), issue(1, cut=3), issue(0), issue(2), fill(1, 1))
        self.assertEqual(found[100], [1001])
        self.assertEqual(found[101:], [[-9], [-9], [10], [12], [100 * 105 + 1]])

    def test_issues_begun_count_among_the_hundred(self):
        world = world_after(begin(), issue(0, cut=3))
        world.offices[0].up = True
        for number in range(99):
            do(world, issue(0))
        self.assertEqual(do(world, issue(0, cut=1)), [1000])
        world.offices[0].up = True
        self.assertEqual(do(world, issue(0)), [-9])

    def test_the_order_of_refusals(self):
        for o in (-FAR, -1, 3, FAR):
            self.assertEqual(last(begin(), issue(o, coins=0)), [-5])
        self.assertEqual(last(begin(), issue(0, cut=1), issue(0, coins=0)), [-6])
        self.assertEqual(last(begin(), issue(0, cut=1), issue(0, cut=4)), [-6])
        self.assertEqual(last(begin(), fill(0, MOST), issue(0, coins=0)), [-12])
        self.assertEqual(last(begin(), fill(0, MOST), issue(0, key=-1)), [-12])
        self.assertEqual(last(begin(), fill(0, MOST), issue(0, cut=4)), [-12])
        hundred = [begin(fee=0)] + [issue(0, 1) for number in range(100)] + [fill(1, MOST - 101)]
        self.assertEqual(told(*hundred, issue(0, 2), issue(0, 1), issue(0, 0))[-3:], [[-8], [-9], [-12]])

    def test_a_refusal_changes_nothing(self):
        world = world_after(begin(), issue(0), fill(1, MOST - 300))
        before = plain(world)
        for call in (issue(3), issue(0, 0), issue(0, key=-1), issue(0, cut=4), issue(0, 500)):
            self.assertLess(do(world, call)[0], 0)
        self.assertEqual(plain(world), before)


class OutOfDate(unittest.TestCase):
    """It's out of date from the clock's time plus the life on, by the issuing office's clock alone."""

    def kind_answered(self, offset, passed, offset_later):
        world = world_after(begin(life=50), pass_on(10), clock(0, offset), clock(1, 77), issue(0), pass_on(passed),
                            clock(0, offset_later), present(1, 10))
        found = do(world, deliver(0))
        kind = world.messages[1].kind
        self.assertEqual(found, [1, 1 if kind == 2 else 0, 1])
        return kind

    def test_just_the_minute_one_before_and_one_behind(self):
        for offset in (0, 30, -30, 100000, -100000):
            self.assertEqual(self.kind_answered(offset, 49, offset), 2)
            self.assertEqual(self.kind_answered(offset, 50, offset), 3)
            self.assertEqual(self.kind_answered(offset, 51, offset), 3)

    def test_by_what_the_clock_shows_now(self):
        self.assertEqual(self.kind_answered(0, 0, 49), 2)
        self.assertEqual(self.kind_answered(0, 0, 50), 3)
        self.assertEqual(self.kind_answered(-20, 60, -31), 2)
        self.assertEqual(self.kind_answered(-20, 60, -30), 3)


if __name__ == "__main__":
    unittest.main()

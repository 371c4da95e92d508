import time
import unittest

from moneyorders.offices import answers
from tests.helper import (
    begin, claim, clock, count, cut, deliver, fill, giveup, go_round, issue, joined, known_at_1, lose, msg, net, office,
    order, pass_on, pay, present, query, refund, sums, tell, told)


class Untouched(list):
    """A list that can't be changed, not for a while either."""

    def refuse(self, *args, **kwargs):
        raise AssertionError("the list handed in was changed")

    append = extend = insert = pop = remove = clear = sort = reverse = refuse
    __setitem__ = __delitem__ = __iadd__ = __imul__ = refuse


LINE = known_at_1() + [
    fill(1, 200), pay(1, 10, 2), count(1), query(0, 10), deliver(2), tell(1, 10), lose(4), issue(0, 50), refund(0, 20, 1),
    count(0), cut(2), deliver(3), clock(2, -5), go_round(), giveup(1, 10), office(0), order(10), order(20), claim(1, 10),
    msg(4), net(), sums(), refund(0, 20), pass_on(5)]


class Interface(unittest.TestCase):
    def test_answers_stand_one_behind_another_each_with_its_count(self):
        calls = [0, 2, 5, 1000, 60, 3, 1, 200, 4, 0, 100, 7, 0, 5, 1, 10, 7, 6, 0, 6, 1, 8, 1, 10, 0, 10, 0, 10,
                 2, 0, -3, 7, 0, 9, 1, 10, 1, 4]
        self.assertEqual(answers(calls), [
            1, 0, 1, 200, 1, 10, 1, 0, 3, 1, 1, 1, 3, 0, 1, -1, 1, 100, 1, 2,
            2, 0, -3, 1, 0, 1, -3, 1, 4])

    def test_a_line_of_one_call(self):
        self.assertEqual(answers([1, 0]), [1, 0])
        self.assertEqual(answers([0, 1, 0, 1, 1]), [1, 0])
        self.assertEqual(answers([0, 0, 0, 1, 1]), [1, -12])

    def test_a_refusal_of_a_call_with_a_row_is_one_number(self):
        self.assertEqual(answers([2, 0, 0, 6, 0]), [1, -5, 1, -5])

    def test_at_first_there_are_no_offices_and_no_messages(self):
        self.assertEqual(told([2, 0, 0], [3, 0, 1], [4, 0, 1, 0, 0], [5, 0, 10, 0], [6, 0], [7, 0], [8, 0, 10, 0],
                              [9, 0, 10], [10, 0, 10]), [[-5]] * 9)

    def test_at_first_the_later_calls_too(self):
        self.assertEqual(told(tell(0, 10), refund(0, 10), cut(0), count(0), go_round(), office(0), order(10),
                              claim(0, 10), msg(0), net(), sums()),
                         [[-5], [-5], [-5], [-5], [0], [-5], [-5], [-5], [-5], [0], [0, 0, 0, 0, 0, 0]])

    def test_a_line_of_one_call_that_has_no_numbers(self):
        self.assertEqual(answers([15]), [1, 0])
        self.assertEqual(answers([20]), [1, 0])
        self.assertEqual(answers([21]), [6, 0, 0, 0, 0, 0, 0])
        self.assertEqual(answers([21, 15, 20, 15]), [6, 0, 0, 0, 0, 0, 0, 1, 0, 1, 0, 1, 0])

    def test_rows_of_the_later_calls(self):
        calls = [0, 2, 5, 1000, 60, 3, 1, 200, 4, 0, 100, 7, 0, 5, 1, 10, 7, 6, 0, 6, 1, 8, 1, 10, 2, 14, 1, 16, 1,
                 11, 1, 10, 1, 19, 2, 17, 10, 15, 17, 10, 17, 20, 18, 1, 10, 18, 0, 10, 20, 21, 12, 0, 10, 0, 13, 0, 13, 0]
        self.assertEqual(answers(calls), [
            1, 0, 1, 200, 1, 10, 1, 0, 3, 1, 1, 1, 3, 0, 1, -1, 1, 100,
            3, 3, 100, 100,
            7, 1, 4, 100, 100, 0, 4, 0,
            2, 2, 4,
            8, 4, 10, 1, 1, 0, 0, 0, 0,
            9, 2, 3, 100, 1000, 1, 3, 1, 1, 60,
            1, 1,
            9, 3, 3, 100, 1000, 1, 3, 1, 1, 60,
            1, 0,
            6, 1, 1, 100, 60, 1, 0,
            1, 0,
            11, 2, 4, 0, 0, 100, 100, 4, 0, 0, 0, 0,
            6, 205, 200, 105, 100, 0, 3,
            1, -4, 1, 0, 1, -6])

    def test_time_goes_before_any_begin(self):
        self.assertEqual(told(pass_on(3), pass_on(4), pass_on(-1)), [[3], [7], [-12]])

    def test_gives_back_a_new_list_of_whole_numbers(self):
        flat = answers(joined(LINE))
        self.assertIs(type(flat), list)
        self.assertEqual({type(number) for number in flat}, {int})

    def test_the_list_handed_in_is_as_it_was(self):
        self.assertEqual({call[0] for call in LINE}, set(range(22)), "each call is among them")
        calls = Untouched(joined(LINE))
        answers(calls)
        self.assertEqual(list(calls), joined(LINE))

    def test_nothing_is_kept_from_one_time_to_the_next(self):
        first = answers(joined(LINE))
        self.assertEqual(answers([6, 0, 3, 1, 5, 1, 0]), [1, -5, 1, -5, 1, 0])
        self.assertEqual(answers(joined(LINE)), first)

    def test_what_was_given_back_is_not_touched_later(self):
        first = answers(joined(LINE))
        copy = list(first)
        first.append(77)
        self.assertEqual(answers(joined(LINE)), copy)

    def test_two_calls_one_behind_the_other(self):
        other = [begin(5, 0, 10, 10), issue(4, 9), cut(4), pass_on(77), present(0, 14), net(), sums()]
        first = answers(joined(LINE))
        second = answers(joined(other))
        self.assertEqual(answers(joined(LINE)), first)
        self.assertEqual(answers(joined(other)), second)
        self.assertEqual(answers([21, 20, 19, 0, 1, 0]), [6, 0, 0, 0, 0, 0, 0, 1, 0, 1, -5, 1, 0])

    def test_four_hundred_calls(self):
        line = [begin(5)] + [issue(o) for o in range(5)] + [present(1, 10)] + [deliver(0)] * 299
        line += [pass_on(1000000)] * (400 - len(line))
        self.assertEqual(len(line), 400)
        found = told(*line)
        self.assertEqual(len(found), 400)
        self.assertEqual(found[-1], [94 * 1000000])


class InGoodTime(unittest.TestCase):
    """Lines of 400 calls, each answered in far less than the seconds allowed here."""

    def in_time(self, line):
        line = line + [sums()] * (400 - len(line))
        self.assertEqual(len(line), 400)
        began = time.perf_counter()
        found = told(*line)
        self.assertLess(time.perf_counter() - began, 5)
        self.assertEqual(len(found), 400)
        return found

    def test_a_hundred_orders_shown_again_and_again(self):
        found = self.in_time([begin(5)] + [issue(0)] * 100 + [office(0)] * 299)
        self.assertEqual(len(found[-1]), 7 + 100)

    def test_net_of_five_offices_with_orders(self):
        line = [begin(5), fill(1, 10 ** 6)] + [issue(o) for o in range(5)] * 10
        line += [present(1, 10 * k) for k in range(1, 11)] + [deliver(m) for m in range(20)]
        line += [pay(1, 10 * k) for k in range(1, 11)] + [go_round()]
        found = self.in_time(line + [net()] * 150 + [go_round()] * 150)
        self.assertEqual(found[len(line) - 1], [10])
        self.assertEqual(found[len(line)][:6], [5, 10, 0, 0, 1000, 1000])

    def test_many_grants_of_one_order(self):
        line = [begin(lease=1), issue(0), present(1, 10)]
        for m in range(1, 51):
            line += [deliver(0), deliver(m), pass_on(1), go_round()]
        found = self.in_time(line + [claim(1, 10)] * 190 + [order(10), pay(1, 10), giveup(1, 10), query(0, 10)])
        self.assertEqual(found[-8][:8], [50, 5, 1, 100, 1, 0, 1, 5])
        self.assertEqual(len(found[-8]), 1 + 6 * 50)

    def test_many_grants_each_given_back_by_a_round(self):
        line = [begin(), issue(0), present(1, 10)] + [deliver(0), go_round()] * 198 + [order(10)]
        self.assertEqual(self.in_time(line)[-1], [1, 3, 100, 1000, 198, 0])

    def test_many_cuts_and_counts(self):
        line = [begin(fee=0)] + [issue(0, 5, cut=2), count(0)] * 99 + [refund(0, 10, 1), count(0)] * 100 + [office(0)]
        self.assertEqual(self.in_time(line)[-1][:7], [1, 4, 495, 495, 0, 398, 99])


if __name__ == "__main__":
    unittest.main()

import unittest

from moneyorders.offices import answers
from tests.helper import begin, clock, deliver, fill, issue, joined, known_at_1, pass_on, pay, present, query, told


class Untouched(list):
    """A list that can't be changed, not for a while either."""

    def refuse(self, *args, **kwargs):
        raise AssertionError("the list handed in was changed")

    append = extend = insert = pop = remove = clear = sort = reverse = refuse
    __setitem__ = __delitem__ = __iadd__ = __imul__ = refuse


LINE = known_at_1() + [fill(1, 200), pay(1, 10), query(0, 10), deliver(2), deliver(3), clock(2, -5)]


class Interface(unittest.TestCase):
    def test_answers_stand_one_behind_another_each_with_its_count(self):
        calls = [0, 2, 5, 1000, 60, 3, 1, 200, 4, 0, 100, 7, 0, 5, 1, 10, 7, 6, 0, 6, 1, 8, 1, 10, 0, 10, 0, 10,
                 2, 0, -3, 7, 0, 9, 1, 10, 1, 4]
        self.assertEqual(answers(calls), [
            1, 0, 1, 200, 1, 10, 1, 0, 3, 1, 1, 1, 3, 0, 1, -1, 1, 100, 1, 2,
            2, 0, -3, 1, 0, 1, -3, 1, 4])

    def test_a_line_of_one_call(self):
        self.assertEqual(answers([1, 0]), [1, 0])
        self.assertEqual(answers([0, 1, 0, 1, 1]), [1, 0])
        self.assertEqual(answers([0, 0, 0, 1, 1]), [1, -12])

    def test_a_refusal_of_a_call_with_a_row_is_one_number(self):
        self.assertEqual(answers([2, 0, 0, 6, 0]), [1, -5, 1, -5])

    def test_at_first_there_are_no_offices_and_no_messages(self):
        self.assertEqual(told([2, 0, 0], [3, 0, 1], [4, 0, 1, 0, 0], [5, 0, 10, 0], [6, 0], [7, 0], [8, 0, 10, 0],
                              [9, 0, 10], [10, 0, 10]), [[-5]] * 9)

    def test_time_goes_before_any_begin(self):
        self.assertEqual(told(pass_on(3), pass_on(4), pass_on(-1)), [[3], [7], [-12]])

    def test_gives_back_a_new_list_of_whole_numbers(self):
        flat = answers(joined(LINE))
        self.assertIs(type(flat), list)
        self.assertEqual({type(number) for number in flat}, {int})

    def test_the_list_handed_in_is_as_it_was(self):
        calls = Untouched(joined(LINE))
        answers(calls)
        self.assertEqual(list(calls), joined(LINE))

    def test_nothing_is_kept_from_one_time_to_the_next(self):
        first = answers(joined(LINE))
        self.assertEqual(answers([6, 0, 3, 1, 5, 1, 0]), [1, -5, 1, -5, 1, 0])
        self.assertEqual(answers(joined(LINE)), first)

    def test_what_was_given_back_is_not_touched_later(self):
        first = answers(joined(LINE))
        copy = list(first)
        first.append(77)
        self.assertEqual(answers(joined(LINE)), copy)

    def test_four_hundred_calls(self):
        line = [begin(5)] + [issue(o) for o in range(5)] + [present(1, 10)] + [deliver(0)] * 299
        line += [pass_on(1000000)] * (400 - len(line))
        self.assertEqual(len(line), 400)
        found = told(*line)
        self.assertEqual(len(found), 400)
        self.assertEqual(found[-1], [94 * 1000000])


if __name__ == "__main__":
    unittest.main()

import unittest

from tests.helper import (
    FAR, begin, deliver, do, fields, fill, issue, known_at_1, last, lose, pay, plain, present, told, world_after)

NO_OFFICE_THERE = (13, 19, 99999)


class Present(unittest.TestCase):
    def test_answers_the_messages_numbers_from_0_on(self):
        self.assertEqual(told(begin(), issue(0), present(1, 10), present(2, 10), present(0, 10), present(1, 22))[2:],
                         [[0], [1], [2], [3]])

    def test_asks_the_orders_office(self):
        world = world_after(begin(), present(1, 10, 7), present(2, 21, 9999), present(0, 100000, 0), present(0, 0))
        self.assertEqual([fields(message) for message in world.messages], [
            (1, 10, 0, 1, 0, 7, 0, False), (1, 21, 0, 2, 1, 9999, 0, False), (1, 100000, 0, 0, 0, 0, 0, False),
            (1, 0, 0, 0, 0, 7, 0, False)])

    def test_writes_nothing(self):
        world = world_after(begin(), present(1, 10), present(0, 10))
        self.assertEqual([len(office.journal) for office in world.offices], [0, 0, 0])

    def test_both_edges_of_the_order(self):
        self.assertEqual(told(begin(), present(1, 0), present(1, 100000))[1:], [[0], [1]])
        for n in (-FAR, -1, 100001, FAR):
            self.assertEqual(told(begin(5), present(1, n), present(1, 0))[1:], [[-12], [0]])

    def test_both_edges_of_the_key(self):
        self.assertEqual(told(begin(), present(1, 10, 0), present(1, 10, 9999))[1:], [[0], [1]])
        for key in (-FAR, -1, 10000, FAR):
            self.assertEqual(told(begin(), present(1, 10, key), present(1, 10))[1:], [[-12], [0]])

    def test_no_office_of_that_order(self):
        for n in NO_OFFICE_THERE:
            self.assertEqual(told(begin(3), present(1, n), present(1, 12))[1:], [[-5], [0]])
        self.assertEqual(last(begin(5), present(1, 14)), [0])
        self.assertEqual(last(begin(4), present(1, 14)), [-5])

    def test_a_down_office_may_be_asked_but_not_ask(self):
        self.assertEqual(told(begin(), issue(0, cut=1), present(1, 10), present(0, 11))[2:], [[0], [-6]])

    def test_the_order_of_refusals(self):
        for p in (-FAR, -1, 3, FAR):
            self.assertEqual(last(begin(), present(p, -1, -1)), [-5])
        self.assertEqual(last(begin(), issue(0, cut=3), present(0, -1, -1)), [-6])
        self.assertEqual(last(begin(), issue(0, cut=3), present(0, 19)), [-6])
        self.assertEqual(last(begin(), present(0, 19, -1)), [-12])
        self.assertEqual(last(begin(), present(0, 100009)), [-12])
        many = [begin()] + [present(0, 10)] * 300
        self.assertEqual(last(*many, present(0, 19)), [-5])
        self.assertEqual(last(*many, present(0, 10, -1)), [-12])
        self.assertEqual(last(*many, present(0, -1)), [-12])
        self.assertEqual(last(*many, present(3, 10)), [-5])

    def test_three_hundred_messages(self):
        found = told(begin(), *[present(0, 10)] * 301)
        self.assertEqual(found[-3:], [[298], [299], [-9]])


class Lose(unittest.TestCase):
    def test_answers_0_and_it_is_gone(self):
        self.assertEqual(told(begin(), issue(0), present(1, 10), lose(0), deliver(0))[3:], [[0], [-4]])

    def test_another_message_is_not(self):
        self.assertEqual(told(begin(), issue(0), present(1, 10), present(1, 10), lose(0), deliver(1))[4:],
                         [[0], [1, 1, 2]])

    def test_twice(self):
        self.assertEqual(told(begin(), present(1, 10), lose(0), lose(0), deliver(0))[2:], [[0], [0], [-4]])

    def test_no_such_message(self):
        for m in (-FAR, -1, 1, FAR):
            self.assertEqual(told(begin(), present(1, 10), lose(m), deliver(0))[2:], [[-5], [1, 0, 1]])

    def test_it_still_counts_and_nothing_moves_up(self):
        self.assertEqual(told(begin(), present(1, 10), lose(0), present(1, 10))[1:], [[0], [0], [1]])
        self.assertEqual(last(begin(), *[present(0, 10)] * 300, lose(5), present(0, 10)), [-9])

    def test_may_be_done_when_full_or_when_the_office_is_down(self):
        self.assertEqual(last(begin(), *[present(0, 10)] * 300, lose(299)), [0])
        self.assertEqual(last(begin(), present(1, 10), issue(0, cut=3), lose(0)), [0])

    def test_what_was_delivered_before_stays(self):
        self.assertEqual(last(*known_at_1(), lose(0), lose(1), fill(1, 100), pay(1, 10)), [100])

    def test_only_that_message_changes(self):
        world = world_after(*known_at_1())
        before = plain(world)
        do(world, lose(1))
        self.assertNotEqual(plain(world), before)
        world.messages[1].gone = False
        self.assertEqual(plain(world), before)


if __name__ == "__main__":
    unittest.main()

import unittest

from tests.helper import (
    FAR, begin, claim, clock, count, cut, deliver, do, fill, given_back_by_1, giveup, go_round, granted_to_1, issue,
    known_at_1, last, lose, msg, paid_at_1, pass_on, pay, plain, present, query, refund, tell, told, world_after)

# Office 1 has given up grant 1 and knows grant 2, made five minutes later.
TWO_GRANTS = given_back_by_1() + [pass_on(5), present(1, 10), deliver(3), deliver(4)]


class Claim(unittest.TestCase):
    def test_no_grant(self):
        for line in ([begin()], [begin(), issue(0)], [begin(), issue(0), present(1, 10)], granted_to_1()):
            self.assertEqual(last(*line, claim(1, 10)), [0])

    def test_one_grant(self):
        self.assertEqual(last(*known_at_1(), claim(1, 10)), [1, 1, 100, 60, 0, 0])
        self.assertEqual(last(*paid_at_1(), claim(1, 10)), [1, 1, 100, 60, 1, 0])
        self.assertEqual(last(*known_at_1(), giveup(1, 10), claim(1, 10)), [1, 1, 100, 60, 0, 1])
        self.assertEqual(last(*known_at_1(), pass_on(60), go_round(), claim(1, 10)), [1, 1, 100, 60, 0, 1])
        self.assertEqual(last(*known_at_1(), pass_on(60), claim(1, 10)), [1, 1, 100, 60, 0, 0])

    def test_told_twice_it_is_one_grant(self):
        self.assertEqual(told(*known_at_1(), deliver(0), deliver(1), deliver(2), claim(1, 10))[-1],
                         [1, 1, 100, 60, 0, 0])

    def test_two_grants(self):
        self.assertEqual(last(*TWO_GRANTS, claim(1, 10)), [2, 5, 1, 100, 60, 0, 1, 5, 2, 100, 65, 0, 0])
        self.assertEqual(last(*TWO_GRANTS, fill(1, 100), pay(1, 10), claim(1, 10)),
                         [2, 5, 1, 100, 60, 0, 1, 5, 2, 100, 65, 1, 0])
        self.assertEqual(last(*TWO_GRANTS, deliver(1), deliver(4), claim(1, 10)),
                         [2, 5, 1, 100, 60, 0, 1, 5, 2, 100, 65, 0, 0])

    def test_grants_one_and_three(self):
        line = given_back_by_1() + [present(2, 10), deliver(3), go_round(), present(1, 10), deliver(5), deliver(6)]
        self.assertEqual(told(*line, claim(1, 10), claim(2, 10), deliver(4), claim(2, 10), claim(0, 10))[-5:],
                         [[2, 5, 1, 100, 60, 0, 1, 5, 3, 100, 60, 0, 0], [0], [0, 0, -1], [0], [0]])

    def test_many_grants_in_their_order(self):
        line = [begin(lease=1), issue(0), present(1, 10)]
        for m in range(1, 21):
            line += [deliver(0), deliver(m), pass_on(1), go_round()]
        wanted = [20]
        for g in range(1, 21):
            wanted += [5, g, 100, g, 0, 1]
        self.assertEqual(last(*line, claim(1, 10)), wanted)

    def test_a_grant_given_up_without_being_known(self):
        line = granted_to_1() + [go_round()]
        self.assertEqual(told(*line, claim(1, 10), deliver(1), claim(1, 10))[-3:], [[0], [0, 0, -1], [0]])
        line += [present(1, 10), deliver(2), deliver(3)]
        self.assertEqual(last(*line, claim(1, 10)), [1, 2, 100, 60, 0, 0])

    def test_a_grant_that_was_told_of_is_not_known_by_that(self):
        self.assertEqual(told(*TWO_GRANTS, tell(1, 10, 7), tell(1, 10, 3), claim(1, 10))[-1],
                         [2, 5, 1, 100, 60, 0, 1, 5, 2, 100, 65, 0, 0])

    def test_of_that_order_at_that_office(self):
        line = [begin(), issue(0, 10), issue(0, 20), issue(1, 30), present(1, 10), present(2, 20), present(2, 11)]
        line += [deliver(m) for m in range(6)]
        self.assertEqual(told(*line, claim(1, 10), claim(1, 20), claim(2, 10), claim(2, 20), claim(2, 11), claim(0, 11),
                              claim(1, 11))[-7:],
                         [[1, 1, 10, 60, 0, 0], [0], [0], [1, 1, 20, 60, 0, 0], [1, 1, 30, 60, 0, 0], [0], [0]])

    def test_a_till_below_0_and_a_down_office(self):
        line = [begin(lease=20), clock(0, -500), issue(0), present(1, 10), deliver(0), deliver(1), cut(1), claim(1, 10)]
        self.assertEqual(last(*line), [1, 1, 100, -480, 0, 0])

    def test_an_act_counts_only_when_it_was_done(self):
        for at, ahead, behind in ((1, 0, 0), (2, 0, 1), (3, 0, 0)):
            self.assertEqual(told(*paid_at_1(at), claim(1, 10), count(1), claim(1, 10))[-3::2],
                             [[1, 1, 100, 60, ahead, 0], [1, 1, 100, 60, behind, 0]])

    def test_no_order_of_that_number_need_be(self):
        self.assertEqual(told(begin(3), claim(1, 0), claim(1, 13), claim(1, 19), claim(1, 100000))[1:],
                         [[0], [0], [0], [0]])

    def test_edges_and_the_order_of_refusals(self):
        for p in (-FAR, -1, 3, FAR):
            self.assertEqual(last(*known_at_1(), claim(p, 10)), [-5])
            self.assertEqual(last(*known_at_1(), claim(p, -1)), [-5])
        for n in (-FAR, -1, 100001, FAR):
            self.assertEqual(last(*known_at_1(), claim(1, n)), [-12])
        self.assertEqual(told(claim(0, 10), claim(0, -1)), [[-5], [-5]])

    def test_changes_nothing(self):
        world = world_after(*TWO_GRANTS)
        before = plain(world)
        for call in (claim(1, 10), claim(2, 10), claim(1, 20), claim(3, 10), claim(1, -1)):
            do(world, call)
        self.assertEqual(plain(world), before)


class Msg(unittest.TestCase):
    def test_each_kind(self):
        line = [begin(), issue(0), present(1, 10, 7), present(2, 10, 8), deliver(0), deliver(1), deliver(2), fill(1, 100),
                query(0, 10), pay(1, 10), deliver(4)]
        self.assertEqual(told(*line, *[msg(m) for m in range(6)])[-6:],
                         [[1, 10, 0, 1, 0, 7, 0, 0], [1, 10, 0, 2, 0, 8, 0, 0], [2, 10, 1, 0, 1, 100, 60, 0],
                          [3, 10, 0, 0, 2, 0, 0, 0], [6, 10, 1, 0, 1, 0, 0, 0], [4, 10, 1, 1, 0, 0, 0, 0]])
        self.assertEqual(last(*TWO_GRANTS, giveup(1, 10), msg(5)), [5, 10, 2, 1, 0, 0, 0, 0])

    def test_the_answer_of_a_question(self):
        line = TWO_GRANTS + [query(0, 10), pass_on(60), deliver(5)]
        self.assertEqual(told(*line, msg(5), msg(6))[-2:], [[6, 10, 2, 0, 1, 0, 0, 0], [5, 10, 2, 1, 0, 0, 0, 0]])

    def test_the_second_grant(self):
        self.assertEqual(last(*TWO_GRANTS, msg(4)), [2, 10, 2, 0, 1, 100, 65, 0])

    def test_a_till_below_0(self):
        self.assertEqual(last(begin(lease=20), clock(0, -500), issue(0), present(1, 10), deliver(0), msg(1)),
                         [2, 10, 1, 0, 1, 100, -480, 0])

    def test_gone(self):
        self.assertEqual(told(*known_at_1(), lose(1), msg(0), msg(1), lose(1), msg(1))[-4:],
                         [[1, 10, 0, 1, 0, 7, 0, 0], [2, 10, 1, 0, 1, 100, 60, 1], [0], [2, 10, 1, 0, 1, 100, 60, 1]])

    def test_delivered_or_not_it_is_kept(self):
        self.assertEqual(told(*known_at_1(), msg(1), deliver(1), msg(1), cut(0), cut(1), msg(1))[-6::5],
                         [[2, 10, 1, 0, 1, 100, 60, 0], [2, 10, 1, 0, 1, 100, 60, 0]])

    def test_no_such_message(self):
        for m in (-FAR, -1, 2, FAR):
            self.assertEqual(last(*known_at_1(), msg(m)), [-5])
        self.assertEqual(told(msg(0), begin(), msg(0)), [[-5], [0], [-5]])
        self.assertEqual(last(*known_at_1(), begin(), msg(0)), [-5])

    def test_the_last_of_three_hundred(self):
        line = [begin()] + [present(1, 10, m) for m in range(300)]
        self.assertEqual(told(*line, msg(299), msg(300))[-2:], [[1, 10, 0, 1, 0, 299, 0, 0], [-5]])

    def test_a_refused_call_sends_none(self):
        line = known_at_1() + [refund(0, 10), tell(1, 10), query(1, 10), giveup(2, 10), present(1, 13)]
        self.assertEqual(last(*line, msg(2)), [-5])

    def test_changes_nothing(self):
        world = world_after(*TWO_GRANTS, lose(2))
        before = plain(world)
        for m in (-1, 0, 1, 2, 3, 4, 5):
            do(world, msg(m))
        self.assertEqual(plain(world), before)


if __name__ == "__main__":
    unittest.main()

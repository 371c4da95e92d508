import random
import unittest

from moneyorders.journals import BANK, DONE, ISSUING, PAYING
from moneyorders.offices import answers
from moneyorders.world import World
from tests.helper import (
    begin, clock, deliver, do, fill, giveup, issue, joined, lose, pass_on, pay, plain, present, query)

OFFICES = 3
ROWS = {2: 1, 6: 2}


def some_call(pick, world):
    """A call that's likely, but not sure, to be taken."""
    o = pick.randrange(OFFICES)
    n = pick.choice([10] + [number for office in world.offices for number in office.orders])
    m = len(world.messages) - 1 - int(pick.expovariate(0.2))
    key = pick.choice([0, 0, 0, 1])
    cut = pick.choice([0] * 100 + [1, 2, 3])
    claims = [(p, claim.order) for p, office in enumerate(world.offices) for claim in office.claims.values()]
    p, claimed = pick.choice(claims[-4:] + [(o, n)])
    return pick.choices(
        [pass_on(pick.randrange(8)), clock(o, pick.randrange(-9, 9)), fill(o, pick.randrange(1, 500)),
         issue(o, pick.randrange(1, 100), key, cut), present(o, n, key), deliver(m),
         lose(m), pay(p, claimed, cut), giveup(p, claimed), query(pick.choice([o, n % 10]), n)],
        [4, 1, 2, 4, 12, 36, 2, 8, 1, 6])[0]


def acts_done(world, kind):
    """Office and act of each act of a kind that was done."""
    return [(o, record[1]) for o, office in enumerate(world.offices) for record in office.journal
            if record[0] == DONE and record[1].kind == kind]


class Promises(unittest.TestCase):
    def hold(self, world):
        paid = [(act.number, o, -act.cash) for o, act in acts_done(world, PAYING)]
        self.assertEqual(len({number for number, o, coins in paid}), len(paid))
        self.hold_books(world, sum(coins for number, o, coins in paid))
        for home in world.offices:
            for number, order in home.orders.items():
                if order.closed:
                    self.assertIn((number, order.standing().holder, order.coins), paid)
                self.hold_grants(world, number, order)

    def hold_books(self, world, paid_out):
        for office in world.offices:
            if office.up:
                self.assertEqual(office.drawer, office.book())
            self.assertGreaterEqual(office.drawer, 0)
        brought = sum(record[1] for office in world.offices for record in office.journal if record[0] == BANK)
        paid_in = sum(act.subject.coins + world.fee for o, act in acts_done(world, ISSUING))
        self.assertEqual(sum(office.book() for office in world.offices), brought + paid_in - paid_out)

    def hold_grants(self, world, number, order):
        standing = order.standing()
        self.assertTrue(all(grant.given_back for grant in order.grants[:-1]))
        for o, office in enumerate(world.offices):
            payable = [claim for claim in office.claims.values() if claim.order == number and claim.may_pay()]
            self.assertLessEqual(len(payable), 1)
            for claim in payable:
                self.assertEqual((claim.grant, o, claim.coins, claim.till),
                                 (standing.number, standing.holder, order.coins, standing.till))

    def test_whatever_is_lost_doubled_late_or_cut(self):
        payments = 0
        for seed in range(60):
            pick = random.Random(seed)
            world = World()
            line = [begin(OFFICES, pick.randrange(3), pick.randrange(20, 300), pick.randrange(5, 60))]
            found = [do(world, line[0])]
            while len(line) < 250:
                line.append(some_call(pick, world))
                before = plain(world)
                found.append(do(world, line[-1]))
                if found[-1][0] < 0:
                    self.assertEqual(len(found[-1]), 1)
                    self.assertEqual(plain(world), before)
                else:
                    self.assertEqual(len(found[-1]), 1 + ROWS.get(line[-1][0], 0))
                self.hold(world)
            self.assertEqual(answers(joined(line)), joined([len(answer)] + answer for answer in found))
            payments += len(acts_done(world, PAYING))
        self.assertGreater(payments, 100)


if __name__ == "__main__":
    unittest.main()

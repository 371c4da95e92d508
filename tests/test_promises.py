"""The promises over seeded lines of all calls, by what the calls answer and by the cash that changed hands."""

import random
import unittest

from moneyorders.offices import answers
from moneyorders.world import World
from tests.helper import (
    begin, claim, clock, count, do, go_round, joined, likely_call, net, office, order, pass_on, plain, sums)

FILL, ISSUE, PAY, REFUND = 3, 4, 8, 12
CASH_MOVES = (0, 2)
CHANGES_NOTHING = range(16, 22)


class Watcher:
    """Does the calls of a line, and keeps what somebody would see who stands by: coins brought in and handed out."""

    def __init__(self, offices, fee, life, lease):
        self.world = World()
        self.offices = range(offices)
        self.fee = fee
        self.line = []
        self.found = []
        self.drawers = [0] * offices
        self.brought = 0
        self.taken_in = 0
        self.handed_out = []
        self.do(begin(offices, fee, life, lease))

    def do(self, call):
        answer = do(self.world, call)
        self.line.append(call)
        self.found.append(answer)
        if answer[0] >= 0:
            self.watch(call, answer)
        return answer

    def watch(self, call, answer):
        if call[0] == FILL:
            self.brought += call[2]
            self.drawers[call[1]] += call[2]
        elif call[0] == ISSUE and call[4] in CASH_MOVES:
            self.taken_in += call[2] + self.fee
            self.drawers[call[1]] += call[2] + self.fee
        elif call[0] in (PAY, REFUND) and call[3] in CASH_MOVES:
            self.handed_out.append((call[0], call[2], call[1], answer[0]))
            self.drawers[call[1]] -= answer[0]

    def see(self, call):
        return do(self.world, call)

    def up(self, o):
        return self.see(office(o))[0] == 1

    def orders(self):
        return [n for o in self.offices for n in self.see(office(o))[7:]]

    def paid(self, kind):
        return sum(coins for act, n, o, coins in self.handed_out if act == kind)

    def put_up_and_wait(self):
        """All offices up, all leases over by their clocks."""
        for o in self.offices:
            if not self.up(o):
                self.do(count(o))
        self.do(pass_on(1000))


class Promises(unittest.TestCase):
    def hold(self, seen):
        numbers = [n for act, n, o, coins in seen.handed_out]
        self.assertEqual(len(numbers), len(set(numbers)), "1: handed out once, paid or refunded")
        self.hold_books(seen)
        self.hold_sums(seen)
        self.hold_orders(seen)
        self.hold_net(seen)

    def hold_books(self, seen):
        for o in seen.offices:
            found = seen.see(office(o))
            self.assertEqual(found[2], seen.drawers[o])
            self.assertGreaterEqual(found[2], 0)
            if found[0]:
                self.assertEqual(found[2], found[3], "2: an office that's up has what its book says")

    def hold_sums(self, seen):
        cash, brought, issued, paid, refunded, sent = seen.see(sums())
        self.assertEqual((cash, brought), (sum(seen.drawers), seen.brought))
        books = sum(seen.see(office(o))[3] for o in seen.offices)
        self.assertEqual(books, brought + issued - paid - refunded, "2: all books together")
        if all(seen.up(o) for o in seen.offices):
            self.assertEqual((issued, paid, refunded), (seen.taken_in, seen.paid(PAY), seen.paid(REFUND)))

    def hold_orders(self, seen):
        for n in seen.orders():
            state, three, coins, out_of_date, grants, *standing = seen.see(order(n))
            mine = [(act, o, amount) for act, number, o, amount in seen.handed_out if number == n]
            if state == 3:
                self.assertEqual(mine, [(PAY, standing[1], coins)], "3: paid by whom it was granted to, its coins")
            if state == 4:
                self.assertEqual(mine, [(REFUND, n % 10, coins)])
            if state == 1:
                self.assertNotIn(PAY, [act for act, o, amount in mine])
            self.hold_claims(seen, n, coins, standing[1:])

    def hold_claims(self, seen, n, coins, standing):
        for o in seen.offices:
            known, *flat = seen.see(claim(o, n))
            rows = [flat] if known == 1 else [flat[at + 1:at + 6] for at in range(0, len(flat), 6)]
            self.assertEqual(len(rows), known)
            for g, amount, till, paid, given_up in rows:
                self.assertEqual(amount, coins)
                self.assertLess(paid + given_up, 2)
                if not given_up:
                    self.assertEqual([o, g, till], standing)
                if paid:
                    self.assertIn((PAY, n, o, coins), seen.handed_out)

    def hold_net(self, seen):
        found = seen.see(net())
        width = 2 * len(seen.offices)
        for o in seen.offices:
            row = found[2 + o * (width + 1):][:width]
            for p in seen.offices:
                known, paid = row[2 * p:2 * p + 2]
                out = sum(coins for act, n, at, coins in seen.handed_out if (act, n % 10, at) == (PAY, o, p))
                self.assertLessEqual(known, paid, "3: what's known to be paid was paid")
                self.assertLessEqual(paid, out)
                if seen.up(p):
                    self.assertEqual(paid, out)

    def hold_call(self, seen, call):
        before = plain(seen.world)
        answer = seen.do(call)
        if answer[0] < 0:
            self.assertEqual(len(answer), 1)
        if answer[0] < 0 or call[0] in CHANGES_NOTHING:
            self.assertEqual(plain(seen.world), before)

    def hold_round(self, seen):
        seen.put_up_and_wait()
        sent = len(seen.world.messages)
        seen.do(go_round())
        self.assertEqual(len(seen.world.messages), sent)
        for n in seen.orders():
            self.assertNotEqual(seen.see(order(n))[0], 2, "4: no grant stands of an order that isn't closed")
        self.assertEqual(seen.do(go_round()), [0])
        self.hold(seen)

    def line_of(self, seed):
        pick = random.Random(seed)
        seen = Watcher(2 + seed % 4, pick.randrange(3), pick.randrange(20, 300), pick.randrange(5, 60))
        rounds = (130, 250, 380) if seed % 2 else (380,)
        for until in rounds:
            while len(seen.line) < until:
                self.hold_call(seen, likely_call(pick, seen.world))
                self.hold(seen)
            self.hold_round(seen)
            for o in seen.offices[:2]:
                seen.do(clock(o, 0))
        self.assertLessEqual(len(seen.line), 400)
        self.assertEqual(answers(joined(seen.line)), joined([len(answer)] + answer for answer in seen.found))
        return seen

    def test_whatever_is_lost_doubled_late_or_cut(self):
        acts = {PAY: 0, REFUND: 0}
        calls = {}
        counted = {}
        states = {}
        for seed in range(40):
            seen = self.line_of(seed)
            for act, n, o, coins in seen.handed_out:
                acts[act] += 1
            for call, answer in zip(seen.line, seen.found):
                if answer[0] >= 0:
                    calls[call[0]] = calls.get(call[0], 0) + 1
                    if call[0] == 14:
                        counted[answer[0]] = counted.get(answer[0], 0) + 1
            for n in seen.orders():
                state = seen.see(order(n))[0]
                states[state] = states.get(state, 0) + 1
        self.assertGreater(acts[PAY], 100)
        self.assertGreater(acts[REFUND], 50)
        self.assertEqual(sorted(calls), list(range(22)), "each call was taken")
        self.assertGreater(min(counted[value] for value in (0, 3, 4)), 20)
        self.assertEqual(sorted(states), [1, 3, 4])


if __name__ == "__main__":
    unittest.main()

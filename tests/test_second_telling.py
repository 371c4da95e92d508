"""The document told a second time, by records alone, and compared with the program over seeded lines.

Nothing is kept of an office here but its records, its drawer, its offset and whether it's up: how orders and grants
stand is found anew each time by walking the records.
"""

import random
import unittest

from moneyorders.offices import answers
from moneyorders.world import World
from tests.helper import FAR, do, joined, likely_call, likely_calls


class Refused(Exception):
    pass


def refuse(*wrongs):
    """Each wrong is a function that answers whether it is so, and a number."""
    for is_wrong, number in wrongs:
        if is_wrong():
            raise Refused(number)


class Telling:
    def __init__(self):
        self.time = self.fee = self.life = self.lease = 0
        self.places = []
        self.sent = []

    def answer(self, call):
        try:
            value, *rows = getattr(self, "call_%d" % call[0])(*call[1:])
        except Refused as refusal:
            return [refusal.args[0]]
        if len(rows) == 1:
            return [value] + rows[0]
        return [value] + [number for row in rows for number in [len(row)] + row]

    # What is looked for in several calls.

    def office(self, o):
        return (lambda: not 0 <= o < len(self.places)), -5

    def down(self, o):
        return (lambda: not self.places[o]["up"]), -6

    def full(self):
        return (lambda: len(self.sent) >= 300), -9

    def message(self, m):
        return (lambda: not 0 <= m < len(self.sent)), -5

    def home(self, n):
        return (lambda: n % 10 >= len(self.places)), -5

    def cash(self, more):
        return (lambda: sum(place["drawer"] for place in self.places) + more > 10 ** 9), -8

    @staticmethod
    def span(n, least, most):
        return (lambda: not least <= n <= most), -12

    # What the records say.

    def done(self, o, kind):
        records = self.places[o]["records"]
        return [ahead[2] for ahead, behind in zip(records, records[1:])
                if ahead[0] == "begun" and behind == ("done",) and ahead[1] == kind]

    def book(self, o):
        brought = sum(record[1] for record in self.places[o]["records"] if record[0] == "bank")
        paid_in = sum(act["coins"] + act["fee"] for act in self.done(o, "issue"))
        return brought + paid_in - sum(act["coins"] for kind in ("pay", "refund") for act in self.done(o, kind))

    def issued(self, o, n):
        return [act for act in self.done(o, "issue") if act["n"] == n]

    def refunded(self, o, n):
        return any(act["n"] == n for act in self.done(o, "refund"))

    def about(self, o, what, n):
        return [record[2:] for record in self.places[o]["records"] if record[:2] == (what, n)]

    def standing(self, o, n):
        grants = self.about(o, "grant", n)
        if not grants or (grants[-1][0],) in self.about(o, "back", n):
            return None
        return grants[-1]

    def paid_by(self, p, n, g):
        return any((act["n"], act["g"]) == (n, g) for act in self.done(p, "pay"))

    def given_up(self, p, n, g):
        return (g,) in self.about(p, "up", n)

    def payable(self, p, n):
        left = [known for known in self.about(p, "known", n)
                if not self.paid_by(p, n, known[0]) and not self.given_up(p, n, known[0])]
        return max(left) if left else None

    def shows(self, o):
        return self.time + self.places[o]["offset"]

    # What is done in several calls.

    def write(self, o, *record):
        self.places[o]["records"].append(record)

    def send(self, *message):
        self.sent.append([*message, 0])
        return len(self.sent) - 1

    def act(self, o, kind, act, gain, cut):
        place = self.places[o]
        if cut != 3:
            self.write(o, "begun", kind, act)
        if cut in (0, 2):
            place["drawer"] += gain
        if cut == 0:
            self.write(o, "done")
        place["up"] = cut == 0

    def take(self, kind, n, g, sender, o, amount, till, gone=0):
        """The answer, without its number, or None."""
        if kind == 1:
            return self.may_i(n, sender, o, amount)
        if kind == 2 and not self.given_up(o, n, g) and g not in [known[0] for known in self.about(o, "known", n)]:
            self.write(o, "known", n, g, amount, till)
        if kind in (4, 5):
            standing = self.standing(o, n)
            if standing and standing[:2] == (g, sender) and not self.about(o, "closed", n):
                self.write(o, "closed" if kind == 4 else "back", n, g)
        if kind == 6:
            return self.did_you(n, g, sender, o)
        return None

    def may_i(self, n, sender, o, key):
        no = (3, n, 0, o, sender, 0, 0)
        if [act["key"] for act in self.issued(o, n)] != [key] or self.refunded(o, n) or self.about(o, "closed", n):
            return no
        act = self.issued(o, n)[0]
        if not self.standing(o, n) and self.shows(o) < act["date"]:
            self.write(o, "grant", n, len(self.about(o, "grant", n)) + 1, sender, self.shows(o) + self.lease)
        standing = self.standing(o, n)
        if standing and standing[1] == sender:
            return 2, n, standing[0], o, sender, act["coins"], standing[2]
        return no

    def did_you(self, n, g, sender, o):
        if self.paid_by(o, n, g):
            return 4, n, g, o, sender, 0, 0
        if not self.given_up(o, n, g):
            if any(known[0] == g and self.shows(o) < known[2] for known in self.about(o, "known", n)):
                return None
            self.write(o, "up", n, g)
        return 5, n, g, o, sender, 0, 0

    # The calls: a value, and rows behind it.

    def call_0(self, offices, fee, life, lease):
        refuse(self.span(offices, 1, 5), self.span(fee, 0, 1000), self.span(life, 1, 10 ** 6),
               self.span(lease, 1, 10 ** 6))
        self.time, self.fee, self.life, self.lease = 0, fee, life, lease
        self.places = [{"up": True, "offset": 0, "drawer": 0, "records": []} for o in range(offices)]
        self.sent = []
        return 0,

    def call_1(self, n):
        refuse(self.span(n, 0, 10 ** 6), self.span(self.time + n, 0, 10 ** 9))
        self.time += n
        return self.time,

    def call_2(self, o, z):
        refuse(self.office(o), self.span(z, -100000, 100000))
        self.places[o]["offset"] = z
        return 0, [self.shows(o)]

    def call_3(self, o, n):
        refuse(self.office(o), self.down(o), self.span(n, 1, 10 ** 9), self.cash(n))
        self.write(o, "bank", n)
        self.places[o]["drawer"] += n
        return self.places[o]["drawer"],

    def begun(self, o):
        return sum(record[:2] == ("begun", "issue") for record in self.places[o]["records"])

    def call_4(self, o, coins, key, cut):
        refuse(self.office(o), self.down(o), self.span(coins, 1, 10 ** 6), self.span(key, 0, 9999), self.span(cut, 0, 3),
               self.cash(coins + self.fee), (lambda: self.begun(o) >= 100, -9))
        n = int(str(self.begun(o) + 1) + str(o))
        act = {"n": n, "coins": coins, "fee": self.fee, "key": key, "date": self.shows(o) + self.life}
        self.act(o, "issue", act, coins + self.fee, cut)
        return n,

    def call_5(self, p, n, key):
        refuse(self.office(p), self.down(p), self.span(n, 0, 100000), self.span(key, 0, 9999), self.home(n), self.full())
        return self.send(1, n, 0, p, n % 10, key, 0),

    def call_6(self, m):
        refuse(self.message(m), (lambda: self.sent[m][7] == 1, -4), (lambda: not self.places[self.sent[m][4]]["up"], -6),
               self.full())
        records = self.places[self.sent[m][4]]["records"]
        before = len(records)
        answer = self.take(*self.sent[m])
        if answer is None:
            return 0, [len(records) - before, -1]
        return 1, [len(records) - before, self.send(*answer)]

    def call_7(self, m):
        refuse(self.message(m))
        self.sent[m][7] = 1
        return 0,

    def call_8(self, p, n, cut):
        refuse(self.office(p), self.down(p), self.span(n, 0, 100000), self.span(cut, 0, 3),
               (lambda: self.payable(p, n) is None, -3), (lambda: self.shows(p) >= self.payable(p, n)[2], -4),
               (lambda: self.places[p]["drawer"] < self.payable(p, n)[1], -7))
        g, coins, till = self.payable(p, n)
        self.act(p, "pay", {"n": n, "g": g, "coins": coins}, -coins, cut)
        return coins,

    def call_9(self, p, n):
        refuse(self.office(p), self.down(p), self.span(n, 0, 100000), self.full(),
               (lambda: self.payable(p, n) is None, -3))
        g = self.payable(p, n)[0]
        self.write(p, "up", n, g)
        return self.send(5, n, g, p, n % 10, 0, 0),

    def call_10(self, o, n):
        refuse(self.office(o), self.down(o), self.span(n, 0, 100000), self.full(),
               (lambda: self.standing(o, n) is None or self.about(o, "closed", n), -3))
        g, holder, till = self.standing(o, n)
        return self.send(6, n, g, o, holder, 0, 0),

    def call_11(self, p, n, g):
        refuse(self.office(p), self.down(p), self.span(n, 0, 100000), self.span(g, 0, 1000), self.home(n), self.full(),
               (lambda: not self.paid_by(p, n, g) and not self.given_up(p, n, g), -3))
        kind = 4 if self.paid_by(p, n, g) else 5
        return self.send(kind, n, g, p, n % 10, 0, 0), [kind]

    def call_12(self, o, n, cut):
        refuse(self.office(o), self.down(o), self.span(n, 0, 100000), self.span(cut, 0, 3),
               (lambda: not self.issued(o, n), -3),
               (lambda: self.refunded(o, n) or self.about(o, "closed", n) or self.standing(o, n), -4),
               (lambda: self.places[o]["drawer"] < self.issued(o, n)[0]["coins"], -7))
        coins = self.issued(o, n)[0]["coins"]
        self.act(o, "refund", {"n": n, "coins": coins}, -coins, cut)
        return coins,

    def call_13(self, o):
        refuse(self.office(o), self.down(o))
        self.places[o]["up"] = False
        return 0,

    def call_14(self, o):
        refuse(self.office(o), (lambda: self.places[o]["up"], -4))
        place = self.places[o]
        place["up"] = True
        value = 0
        if place["records"] and place["records"][-1][0] == "begun":
            value = 4 if place["drawer"] == self.book(o) else 3
            self.write(o, "done" if value == 3 else "not done")
        return value, [place["drawer"], self.book(o)]

    def call_15(self):
        before = sum(len(place["records"]) for place in self.places)
        for o, place in enumerate(self.places):
            for act in self.done(o, "issue"):
                standing = self.standing(o, act["n"])
                if standing and not self.about(o, "closed", act["n"]) and place["up"] and self.places[standing[1]]["up"]:
                    answer = self.take(6, act["n"], standing[0], o, standing[1], 0, 0)
                    self.take(*(answer or (3, 0, 0, 0, o, 0, 0)))
        return sum(len(place["records"]) for place in self.places) - before,

    def call_16(self, o):
        refuse(self.office(o))
        place = self.places[o]
        return (int(place["up"]), [place["drawer"], self.book(o), self.shows(o), len(place["records"])],
                [act["n"] for act in self.done(o, "issue")])

    def call_17(self, n):
        refuse(self.span(n, 0, 100000), self.home(n))
        o = n % 10
        if not self.issued(o, n):
            return 0,
        act = self.issued(o, n)[0]
        standing = self.standing(o, n)
        states = [(4, self.refunded(o, n)), (3, self.about(o, "closed", n)), (2, standing), (1, True)]
        return ([state for state, so in states if so][0], [act["coins"], act["date"], len(self.about(o, "grant", n))],
                [standing[1], standing[0], standing[2]] if standing else [])

    def call_18(self, p, n):
        refuse(self.office(p), self.span(n, 0, 100000))
        known = self.about(p, "known", n)
        return (len(known), *[[g, coins, till, int(self.paid_by(p, n, g)), int(self.given_up(p, n, g))]
                              for g, coins, till in known])

    def call_19(self, m):
        refuse(self.message(m))
        return self.sent[m][0], self.sent[m][1:]

    def call_20(self):
        return (len(self.places), *[[number for p in range(len(self.places)) for number in self.between(o, p)]
                                    for o in range(len(self.places))])

    def between(self, o, p):
        known = [act["coins"] for act in self.done(o, "issue")
                 if self.about(o, "closed", act["n"]) and self.standing(o, act["n"])[1] == p]
        return sum(known), sum(act["coins"] for act in self.done(p, "pay") if str(act["n"])[-1] == str(o))

    def call_21(self):
        def all_done(kind):
            return [act for o in range(len(self.places)) for act in self.done(o, kind)]
        return (sum(place["drawer"] for place in self.places),
                [sum(record[1] for place in self.places for record in place["records"] if record[0] == "bank"),
                 sum(act["coins"] + act["fee"] for act in all_done("issue")),
                 sum(act["coins"] for act in all_done("pay")), sum(act["coins"] for act in all_done("refund")),
                 len(self.sent)])


EDGES = (-FAR, -100001, -1, 0, 1, 2, 3, 4, 5, 10, 11, 100, 300, 1000, 1001, 9999, 10000, 100000, 100001, 10 ** 6,
         10 ** 6 + 1, 10 ** 9, 10 ** 9 + 1, FAR)


def any_call(pick, world):
    """A likely call, now and then with one of its numbers at some edge, or a new begin."""
    if pick.random() < 0.001:
        return likely_calls(pick, world)[0]
    call = likely_call(pick, world)
    if len(call) > 1 and pick.random() < 0.1:
        call[pick.randrange(1, len(call))] = pick.choice(EDGES)
    return call


class SecondTelling(unittest.TestCase):
    def test_both_tell_the_same(self):
        taken = {}
        for seed in range(150):
            pick = random.Random(seed)
            world = World()
            telling = Telling()
            line = []
            found = []
            for at in range(400):
                line.append(likely_calls(pick, world)[0] if at == 3 else any_call(pick, world))
                found.append(do(world, line[-1]))
                self.assertEqual(found[-1], telling.answer(line[-1]), (seed, line))
                if found[-1][0] >= 0:
                    taken[line[-1][0]] = taken.get(line[-1][0], 0) + 1
            self.assertEqual(answers(joined(line)), joined([len(answer)] + answer for answer in found), seed)
        self.assertGreater(min(taken.get(call, 0) for call in range(22)), 100)


if __name__ == "__main__":
    unittest.main()

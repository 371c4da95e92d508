"""An office: its drawer, its journal, and how orders and grants stand by what is written there."""

BANK = "bank"
BEGUN = "begun"
DONE = "done"
NOT_DONE = "not done"
GRANTED = "granted"
CLOSED = "closed"
GIVEN_BACK = "given back"
KNOWN = "known"
GIVEN_UP = "given up"

ISSUING = "issuing"
PAYING = "paying"
REFUNDING = "refunding"

CUT_BEHIND_BEGUN = 1
CUT_BEHIND_CASH = 2
CUT_AHEAD = 3


class Grant:
    def __init__(self, number, holder, till):
        self.number = number
        self.holder = holder
        self.till = till
        self.given_back = False


class Order:
    def __init__(self, coins, key, out_of_date):
        self.coins = coins
        self.key = key
        self.out_of_date = out_of_date
        self.grants = []
        self.closed = False
        self.refunded = False

    def standing(self):
        if not self.grants or self.grants[-1].given_back:
            return None
        return self.grants[-1]


# What an asking office has written down of one grant. A grant may be given up without being known.
class Claim:
    def __init__(self, order, grant):
        self.order = order
        self.grant = grant
        self.coins = 0
        self.till = 0
        self.known = False
        self.paid = False
        self.given_up = False

    def may_pay(self):
        return self.known and not self.paid and not self.given_up


# cash is what the drawer gains: below 0 where coins go out.
# subject is the Order that is issued or refunded, or the Claim that is paid.
class Act:
    def __init__(self, kind, number, cash, subject):
        self.kind = kind
        self.number = number
        self.cash = cash
        self.subject = subject


class Office:
    def __init__(self):
        self.up = True
        self.offset = 0
        self.drawer = 0
        self.journal = []
        self.issues_begun = 0
        self.orders = {}
        self.claims = {}

    def brought(self):
        return sum([record[1] for record in self.journal if record[0] == BANK])

    def acts_done(self):
        return [record[1] for record in self.journal if record[0] == DONE]

    def cash_of(self, kind):
        return sum([act.cash for act in self.acts_done() if act.kind == kind])

    def book(self):
        return self.brought() + sum([act.cash for act in self.acts_done()])

    def bring(self, coins):
        self.journal.append((BANK, coins))
        self.drawer += coins

    def perform(self, act, cut):
        # Power comes back in the last row alone, so each return ahead of it leaves the office down.
        self.up = False
        if cut == CUT_AHEAD:
            return
        self.write_begun(act)
        if cut == CUT_BEHIND_BEGUN:
            return
        self.drawer += act.cash
        if cut == CUT_BEHIND_CASH:
            return
        self.write_done(act)
        self.up = True

    # Answers what was written of the act that a cut left open, or None. Only the last record can be such an act,
    # as nothing is written while an office is down; and the drawer tells whether its cash went.
    def come_up(self):
        self.up = True
        if not self.journal or self.journal[-1][0] != BEGUN:
            return None
        act = self.journal[-1][1]
        if self.drawer == self.book():
            self.write_not_done(act)
            return NOT_DONE
        self.write_done(act)
        return DONE

    def write_begun(self, act):
        self.journal.append((BEGUN, act))
        if act.kind == ISSUING:
            self.issues_begun += 1

    def write_done(self, act):
        self.journal.append((DONE, act))
        if act.kind == ISSUING:
            self.orders[act.number] = act.subject
        elif act.kind == PAYING:
            act.subject.paid = True
        else:
            act.subject.refunded = True

    def write_not_done(self, act):
        self.journal.append((NOT_DONE, act))

    def write_granted(self, n, holder, till):
        order = self.orders[n]
        grant = Grant(len(order.grants) + 1, holder, till)
        self.journal.append((GRANTED, n, grant.number, holder, till))
        order.grants.append(grant)

    def write_closed(self, n, grant):
        order = self.orders[n]
        self.journal.append((CLOSED, n, grant.number))
        order.closed = True

    def write_given_back(self, n, grant):
        self.journal.append((GIVEN_BACK, n, grant.number))
        grant.given_back = True

    def write_known(self, n, g, coins, till):
        self.journal.append((KNOWN, n, g, coins, till))
        claim = self.claim_to_write(n, g)
        claim.coins = coins
        claim.till = till
        claim.known = True

    def write_given_up(self, n, g):
        self.journal.append((GIVEN_UP, n, g))
        claim = self.claim_to_write(n, g)
        claim.given_up = True

    # Asking must leave no trace, so a grant of which nothing was written is shown by a claim that isn't kept.
    def claim_of(self, n, g):
        return self.claims.get((n, g), Claim(n, g))

    def claim_to_write(self, n, g):
        return self.claims.setdefault((n, g), Claim(n, g))

    def known_claims(self, n):
        known = [claim for claim in self.claims.values() if claim.order == n and claim.known]
        return sorted(known, key=lambda claim: claim.grant)

    def payable(self, n):
        left = [claim for claim in self.known_claims(n) if claim.may_pay()]
        return left[-1] if left else None

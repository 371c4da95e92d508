"""The calls that do something. Each answers a list: its value and rows, or the refusal alone."""

from moneyorders.delivery import take
from moneyorders.journals import Act, DONE, ISSUING, Order, PAYING, REFUNDING
from moneyorders.refusals import MOST_CASH, NOT_SO, OVER, SHORT
from moneyorders.refusals import bad_cut, bad_grant, bad_key, bad_number, down, full, no_message, no_office, not_up
from moneyorders.refusals import outside, too_many_issues, too_much_cash
from moneyorders.world import DID_YOU, I_PAID, MAY_I, Message, NEVER, home_of

MOST_OFFICES = 5
MOST_FEE = 1000
MOST_SPAN = 1000000
MOST_TIME = 1000000000
MOST_OFFSET = 100000
MOST_COINS = 1000000

COUNTED_NONE = 0
COUNTED_DONE = 3
COUNTED_NOT_DONE = 4


def begin(world, offices, fee, life, lease):
    refusal = (
        outside(offices, 1, MOST_OFFICES)
        or outside(fee, 0, MOST_FEE)
        or outside(life, 1, MOST_SPAN)
        or outside(lease, 1, MOST_SPAN)
    )
    if refusal:
        return [refusal]
    world.renew(offices, fee, life, lease)
    return [0]


def pass_on(world, n):
    refusal = outside(n, 0, MOST_SPAN) or outside(world.time + n, 0, MOST_TIME)
    if refusal:
        return [refusal]
    world.time += n
    return [world.time]


def clock(world, o, z):
    refusal = no_office(world, o) or outside(z, -MOST_OFFSET, MOST_OFFSET)
    if refusal:
        return [refusal]
    office = world.offices[o]
    office.offset = z
    return [0, world.clock_of(o)]


def fill(world, o, n):
    refusal = not_up(world, o) or outside(n, 1, MOST_CASH) or too_much_cash(world, n)
    if refusal:
        return [refusal]
    office = world.offices[o]
    office.bring(n)
    return [office.drawer]


def issue(world, o, coins, key, cut):
    refusal = (
        not_up(world, o)
        or outside(coins, 1, MOST_COINS)
        or bad_key(key)
        or bad_cut(cut)
        or too_much_cash(world, coins + world.fee)
        or too_many_issues(world, o)
    )
    if refusal:
        return [refusal]
    office = world.offices[o]
    number = (office.issues_begun + 1) * 10 + o
    order = Order(coins, key, world.clock_of(o) + world.life)
    office.perform(Act(ISSUING, number, coins + world.fee, order), cut)
    return [number]


def present(world, p, n, key):
    refusal = (
        not_up(world, p)
        or bad_number(n)
        or bad_key(key)
        or no_office(world, home_of(n))
        or full(world)
    )
    if refusal:
        return [refusal]
    return [world.send(Message(MAY_I, n, 0, p, home_of(n), key, 0))]


def deliver(world, m):
    refusal = no_message(world, m) or undeliverable(world, world.messages[m]) or full(world)
    if refusal:
        return [refusal]
    message = world.messages[m]
    office = world.offices[message.receiver]
    records_before = len(office.journal)
    answer = take(world, message)
    records = len(office.journal) - records_before
    if answer is None:
        return [0, records, -1]
    return [1, records, world.send(answer)]


def undeliverable(world, message):
    return OVER if message.gone else down(world, message.receiver)


def lose(world, m):
    refusal = no_message(world, m)
    if refusal:
        return [refusal]
    message = world.messages[m]
    message.gone = True
    return [0]


def pay(world, p, n, cut):
    refusal = not_up(world, p) or bad_number(n) or bad_cut(cut) or why_not_paid(world, p, n)
    if refusal:
        return [refusal]
    office = world.offices[p]
    claim = office.payable(n)
    office.perform(Act(PAYING, n, -claim.coins, claim), cut)
    return [claim.coins]


def why_not_paid(world, p, n):
    office = world.offices[p]
    claim = office.payable(n)
    if claim is None:
        return NOT_SO
    if world.clock_of(p) >= claim.till:
        return OVER
    if office.drawer < claim.coins:
        return SHORT
    return 0


def giveup(world, p, n):
    refusal = not_up(world, p) or bad_number(n) or full(world) or not_payable(world, p, n)
    if refusal:
        return [refusal]
    office = world.offices[p]
    claim = office.payable(n)
    office.write_given_up(n, claim.grant)
    return [world.send(Message(NEVER, n, claim.grant, p, home_of(n), 0, 0))]


def not_payable(world, p, n):
    return NOT_SO if world.offices[p].payable(n) is None else 0


def query(world, o, n):
    refusal = not_up(world, o) or bad_number(n) or full(world) or nothing_granted(world, o, n)
    if refusal:
        return [refusal]
    return [world.send(question(world, o, n))]


def question(world, o, n):
    grant = world.offices[o].orders[n].standing()
    return Message(DID_YOU, n, grant.number, o, grant.holder, 0, 0)


def nothing_granted(world, o, n):
    order = world.offices[o].orders.get(n)
    if order is None or order.closed or order.standing() is None:
        return NOT_SO
    return 0


def tell(world, p, n, g):
    refusal = (
        not_up(world, p)
        or bad_number(n)
        or bad_grant(g)
        or no_office(world, home_of(n))
        or full(world)
        or nothing_to_tell(world, p, n, g)
    )
    if refusal:
        return [refusal]
    kind = I_PAID if world.offices[p].claim_of(n, g).paid else NEVER
    return [world.send(Message(kind, n, g, p, home_of(n), 0, 0)), kind]


def nothing_to_tell(world, p, n, g):
    claim = world.offices[p].claim_of(n, g)
    return 0 if claim.paid or claim.given_up else NOT_SO


def refund(world, o, n, cut):
    refusal = not_up(world, o) or bad_number(n) or bad_cut(cut) or why_not_refunded(world, o, n)
    if refusal:
        return [refusal]
    office = world.offices[o]
    order = office.orders[n]
    office.perform(Act(REFUNDING, n, -order.coins, order), cut)
    return [order.coins]


def why_not_refunded(world, o, n):
    office = world.offices[o]
    order = office.orders.get(n)
    if order is None:
        return NOT_SO
    if order.refunded or order.closed or order.standing() is not None:
        return OVER
    if office.drawer < order.coins:
        return SHORT
    return 0


def cut_power(world, o):
    refusal = not_up(world, o)
    if refusal:
        return [refusal]
    office = world.offices[o]
    office.up = False
    return [0]


def count_drawer(world, o):
    refusal = no_office(world, o) or still_up(world, o)
    if refusal:
        return [refusal]
    office = world.offices[o]
    outcome = counted(office.come_up())
    return [outcome, office.drawer, office.book()]


def still_up(world, o):
    return OVER if world.offices[o].up else 0


def counted(written):
    if written is None:
        return COUNTED_NONE
    return COUNTED_DONE if written == DONE else COUNTED_NOT_DONE


def go_round(world):
    records_before = world.all_records()
    for o, office in enumerate(world.offices):
        for n in list(office.orders):
            ask_unsent(world, o, n)
    return [world.all_records() - records_before]


# The question and its answer are taken at once and never put among the messages.
def ask_unsent(world, o, n):
    if nothing_granted(world, o, n):
        return
    asked = question(world, o, n)
    if not world.offices[o].up or not world.offices[asked.receiver].up:
        return
    answer = take(world, asked)
    if answer is not None:
        take(world, answer)

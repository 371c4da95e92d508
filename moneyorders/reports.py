"""The calls that only show how things stand. Each answers a list: its value and rows, or the refusal alone."""

from moneyorders.journals import ISSUING, PAYING, REFUNDING
from moneyorders.refusals import bad_number, no_message, no_office
from moneyorders.world import home_of

ABSENT_ORDER = 0
OPEN_ORDER = 1
GRANTED_ORDER = 2
CLOSED_ORDER = 3
REFUNDED_ORDER = 4


# Of several rows each has its count ahead of it; one that stands alone has none.
def with_rows(number, rows):
    if len(rows) == 1:
        return [number] + rows[0]
    told = [number]
    for row in rows:
        told.append(len(row))
        told.extend(row)
    return told


def see_office(world, o):
    refusal = no_office(world, o)
    if refusal:
        return [refusal]
    office = world.offices[o]
    state = [office.drawer, office.book(), world.clock_of(o), len(office.journal)]
    return with_rows(int(office.up), [state, list(office.orders)])


def see_order(world, n):
    refusal = bad_number(n) or no_office(world, home_of(n))
    if refusal:
        return [refusal]
    order = world.offices[home_of(n)].orders.get(n)
    if order is None:
        return [ABSENT_ORDER]
    state = [order.coins, order.out_of_date, len(order.grants)]
    return with_rows(order_state(order), [state, standing_row(order)])


def order_state(order):
    if order.refunded:
        return REFUNDED_ORDER
    if order.closed:
        return CLOSED_ORDER
    if order.standing() is not None:
        return GRANTED_ORDER
    return OPEN_ORDER


def standing_row(order):
    grant = order.standing()
    if grant is None:
        return []
    return [grant.holder, grant.number, grant.till]


def see_claim(world, p, n):
    refusal = no_office(world, p) or bad_number(n)
    if refusal:
        return [refusal]
    rows = [claim_row(claim) for claim in world.offices[p].known_claims(n)]
    return with_rows(len(rows), rows)


def claim_row(claim):
    return [claim.grant, claim.coins, claim.till, int(claim.paid), int(claim.given_up)]


def see_message(world, m):
    refusal = no_message(world, m)
    if refusal:
        return [refusal]
    message = world.messages[m]
    return [
        message.kind,
        message.order,
        message.grant,
        message.sender,
        message.receiver,
        message.amount,
        message.till,
        int(message.gone),
    ]


def see_net(world):
    rows = [net_row(world, o) for o in range(len(world.offices))]
    return with_rows(len(rows), rows)


def net_row(world, o):
    row = []
    for p in range(len(world.offices)):
        row.append(known_paid(world, o, p))
        row.append(really_paid(world, o, p))
    return row


# A grant by which an order was closed stands for ever, so it still tells who paid.
def known_paid(world, o, p):
    closed = [order for order in world.offices[o].orders.values() if order.closed]
    return sum([order.coins for order in closed if order.standing().holder == p])


def really_paid(world, o, p):
    paid = [claim for claim in world.offices[p].claims.values() if claim.paid]
    return sum([claim.coins for claim in paid if home_of(claim.order) == o])


def see_sums(world):
    return [
        world.all_cash(),
        sum([office.brought() for office in world.offices]),
        done_at_all(world, ISSUING),
        -done_at_all(world, PAYING),
        -done_at_all(world, REFUNDING),
        len(world.messages),
    ]


def done_at_all(world, kind):
    return sum([office.cash_of(kind) for office in world.offices])

"""What a message does at the office that gets it. Each function answers the message to send back, or None."""

from moneyorders.world import DID_YOU, I_PAID, MAY_I, Message, NEVER, NO, YOU_MAY


def take(world, message):
    if message.kind == MAY_I:
        return take_may_i(world, message)
    if message.kind == YOU_MAY:
        return take_you_may(world, message)
    if message.kind == I_PAID:
        return take_i_paid(world, message)
    if message.kind == NEVER:
        return take_never(world, message)
    if message.kind == DID_YOU:
        return take_did_you(world, message)
    return None


def plain_answer(message, kind):
    return Message(kind, message.order, message.grant, message.receiver, message.sender, 0, 0)


def take_may_i(world, message):
    office = world.offices[message.receiver]
    order = office.orders.get(message.order)
    if order is None or order.key != message.amount or order.refunded or order.closed:
        return plain_answer(message, NO)
    if order.standing() is None:
        clock = world.clock_of(message.receiver)
        if clock >= order.out_of_date:
            return plain_answer(message, NO)
        office.write_granted(message.order, message.sender, clock + world.lease)
    grant = order.standing()
    if grant.holder != message.sender:
        return plain_answer(message, NO)
    return Message(
        YOU_MAY, message.order, grant.number, message.receiver, message.sender, order.coins, grant.till
    )


def take_you_may(world, message):
    office = world.offices[message.receiver]
    claim = office.claim_of(message.order, message.grant)
    if not claim.known and not claim.given_up:
        office.write_known(message.order, message.grant, message.amount, message.till)
    return None


def take_i_paid(world, message):
    office = world.offices[message.receiver]
    grant = grant_told_of(office, message)
    if grant is not None:
        office.write_closed(message.order, grant)
    return None


def take_never(world, message):
    office = world.offices[message.receiver]
    grant = grant_told_of(office, message)
    if grant is not None:
        office.write_given_back(message.order, grant)
    return None


# A late message may tell of a grant that was given back long ago, while another one stands.
def grant_told_of(office, message):
    order = office.orders.get(message.order)
    if order is None or order.closed:
        return None
    grant = order.standing()
    if grant is None or grant.number != message.grant or grant.holder != message.sender:
        return None
    return grant


def take_did_you(world, message):
    office = world.offices[message.receiver]
    claim = office.claim_of(message.order, message.grant)
    if claim.paid:
        return plain_answer(message, I_PAID)
    if claim.given_up:
        return plain_answer(message, NEVER)
    if claim.known and world.clock_of(message.receiver) < claim.till:
        return None
    office.write_given_up(message.order, message.grant)
    return plain_answer(message, NEVER)

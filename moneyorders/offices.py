"""The package's one entry: a line of calls in, their answers out."""

from moneyorders.calls import begin, clock, count_drawer, cut_power, deliver, fill, giveup, go_round, issue, lose
from moneyorders.calls import pass_on, pay, present, query, refund, tell
from moneyorders.reports import see_claim, see_message, see_net, see_office, see_order, see_sums
from moneyorders.world import World

# How many whole numbers stand behind each call's own.
NUMBERS = (4, 1, 2, 2, 4, 3, 1, 1, 3, 2, 2, 3, 3, 1, 1, 0, 1, 1, 2, 1, 0, 0)


def answers(calls):
    world = World()
    told = []
    at = 0
    while at < len(calls):
        behind = at + 1 + NUMBERS[calls[at]]
        answer = answer_of(world, calls[at], calls[at + 1:behind])
        told.append(len(answer))
        told.extend(answer)
        at = behind
    return told


def answer_of(world, call, given):
    if call == 0:
        return begin(world, given[0], given[1], given[2], given[3])
    if call == 1:
        return pass_on(world, given[0])
    if call == 2:
        return clock(world, given[0], given[1])
    if call == 3:
        return fill(world, given[0], given[1])
    if call == 4:
        return issue(world, given[0], given[1], given[2], given[3])
    if call == 5:
        return present(world, given[0], given[1], given[2])
    if call == 6:
        return deliver(world, given[0])
    if call == 7:
        return lose(world, given[0])
    if call == 8:
        return pay(world, given[0], given[1], given[2])
    if call == 9:
        return giveup(world, given[0], given[1])
    if call == 10:
        return query(world, given[0], given[1])
    return later_answer_of(world, call, given)


# In two halves, as one function of all calls would be too long.
def later_answer_of(world, call, given):
    if call == 11:
        return tell(world, given[0], given[1], given[2])
    if call == 12:
        return refund(world, given[0], given[1], given[2])
    if call == 13:
        return cut_power(world, given[0])
    if call == 14:
        return count_drawer(world, given[0])
    if call == 15:
        return go_round(world)
    if call == 16:
        return see_office(world, given[0])
    if call == 17:
        return see_order(world, given[0])
    if call == 18:
        return see_claim(world, given[0], given[1])
    if call == 19:
        return see_message(world, given[0])
    if call == 20:
        return see_net(world)
    return see_sums(world)

"""The package's one entry: a line of calls in, their answers out."""

from moneyorders.calls import begin, clock, deliver, fill, giveup, issue, lose, pass_on, pay, present, query
from moneyorders.world import World

# How many whole numbers stand behind each call's own.
NUMBERS = (4, 1, 2, 2, 4, 3, 1, 1, 3, 2, 2)


def answers(calls):
    world = World()
    told = []
    at = 0
    while at < len(calls):
        behind = at + 1 + NUMBERS[calls[at]]
        answer = answer_of(world, calls[at], calls[at + 1:behind])
        told.append(len(answer))
        told.extend(answer)
        at = behind
    return told


def answer_of(world, call, given):
    if call == 0:
        return begin(world, given[0], given[1], given[2], given[3])
    if call == 1:
        return pass_on(world, given[0])
    if call == 2:
        return clock(world, given[0], given[1])
    if call == 3:
        return fill(world, given[0], given[1])
    if call == 4:
        return issue(world, given[0], given[1], given[2], given[3])
    if call == 5:
        return present(world, given[0], given[1], given[2])
    if call == 6:
        return deliver(world, given[0])
    if call == 7:
        return lose(world, given[0])
    if call == 8:
        return pay(world, given[0], given[1], given[2])
    if call == 9:
        return giveup(world, given[0], given[1])
    return query(world, given[0], given[1])

"""What the tests share: the calls by their names, and ways to put them to the program."""

from moneyorders.offices import answer_of, answers
from moneyorders.world import World

FAR = 10 ** 18


def begin(offices=3, fee=5, life=1000, lease=60):
    return [0, offices, fee, life, lease]


def pass_on(n):
    return [1, n]


def clock(o, z):
    return [2, o, z]


def fill(o, n):
    return [3, o, n]


def issue(o, coins=100, key=7, cut=0):
    return [4, o, coins, key, cut]


def present(p, n, key=7):
    return [5, p, n, key]


def deliver(m):
    return [6, m]


def lose(m):
    return [7, m]


def pay(p, n, cut=0):
    return [8, p, n, cut]


def giveup(p, n):
    return [9, p, n]


def query(o, n):
    return [10, o, n]


def joined(calls):
    return [number for call in calls for number in call]


def split(flat):
    found = []
    at = 0
    while at < len(flat):
        found.append(flat[at + 1:at + 1 + flat[at]])
        at += 1 + flat[at]
    return found


def told(*calls):
    """What each call of the line answers, a list each."""
    return split(answers(joined(calls)))


def last(*calls):
    return told(*calls)[-1]


def do(world, call):
    return answer_of(world, call[0], call[1:])


def world_after(*calls):
    """For what the calls can't show: the object behind them, after this line."""
    world = World()
    for call in calls:
        do(world, call)
    return world


def fields(message):
    """kind, order, grant, from, to, coins or key, till, gone."""
    return (message.kind, message.order, message.grant, message.sender, message.receiver,
            message.amount, message.till, message.gone)


def plain(value):
    """A picture of a whole object, to tell whether anything in it changed."""
    if isinstance(value, (list, tuple)):
        return [plain(part) for part in value]
    if isinstance(value, dict):
        return [(key, plain(part)) for key, part in value.items()]
    if hasattr(value, "__dict__"):
        return plain(vars(value))
    return value


def known_at_1():
    """Order 10 of 100 coins, key 7, granted till 60 to office 1, which knows it. Messages 0 and 1 are there."""
    return [begin(), issue(0), present(1, 10), deliver(0), deliver(1)]

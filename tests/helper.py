"""What the tests share: the calls by their names, ways to put them to the program, and likely lines."""

from moneyorders.offices import answer_of, answers
from moneyorders.world import World

FAR = 10 ** 18


def begin(offices=3, fee=5, life=1000, lease=60):
    return [0, offices, fee, life, lease]


def pass_on(n):
    return [1, n]


def clock(o, z):
    return [2, o, z]


def fill(o, n):
    return [3, o, n]


def issue(o, coins=100, key=7, cut=0):
    return [4, o, coins, key, cut]


def present(p, n, key=7):
    return [5, p, n, key]


def deliver(m):
    return [6, m]


def lose(m):
    return [7, m]


def pay(p, n, cut=0):
    return [8, p, n, cut]


def giveup(p, n):
    return [9, p, n]


def query(o, n):
    return [10, o, n]


def tell(p, n, g=1):
    return [11, p, n, g]


def refund(o, n, cut=0):
    return [12, o, n, cut]


def cut(o):
    return [13, o]


def count(o):
    return [14, o]


def go_round():
    return [15]


def office(o):
    return [16, o]


def order(n):
    return [17, n]


def claim(p, n):
    return [18, p, n]


def msg(m):
    return [19, m]


def net():
    return [20]


def sums():
    return [21]


def joined(calls):
    return [number for call in calls for number in call]


def split(flat):
    found = []
    at = 0
    while at < len(flat):
        found.append(flat[at + 1:at + 1 + flat[at]])
        at += 1 + flat[at]
    return found


def told(*calls):
    """What each call of the line answers, a list each."""
    return split(answers(joined(calls)))


def last(*calls):
    return told(*calls)[-1]


def do(world, call):
    return answer_of(world, call[0], call[1:])


def world_after(*calls):
    """For what the calls can't show: the object behind them, after this line."""
    world = World()
    for call in calls:
        do(world, call)
    return world


def fields(message):
    """kind, order, grant, from, to, coins or key, till, gone."""
    return (message.kind, message.order, message.grant, message.sender, message.receiver,
            message.amount, message.till, message.gone)


def plain(value):
    """A picture of a whole object, to tell whether anything in it changed."""
    if isinstance(value, (list, tuple)):
        return [plain(part) for part in value]
    if isinstance(value, dict):
        return [(key, plain(part)) for key, part in value.items()]
    if hasattr(value, "__dict__"):
        return plain(vars(value))
    return value


def granted_to_1():
    """Order 10 of 100 coins, key 7, granted till 60 to office 1, which doesn't know it yet."""
    return [begin(), issue(0), present(1, 10), deliver(0)]


def known_at_1():
    """Order 10 of 100 coins, key 7, granted till 60 to office 1, which knows it. Messages 0 and 1 are there."""
    return granted_to_1() + [deliver(1)]


def paid_at_1(at=0):
    """That order paid at office 1, whose drawer had 130 coins."""
    return known_at_1() + [fill(1, 130), pay(1, 10, at)]


def closed_by_1():
    return paid_at_1() + [tell(1, 10), deliver(2)]


def given_back_by_1():
    return known_at_1() + [giveup(1, 10), deliver(2)]


def order_row(state, grants, *standing, coins=100, out_of_date=1000):
    """What order answers of an order that is there."""
    return [state, 3, coins, out_of_date, grants, len(standing), *standing]


def net_rows(offices, **paid):
    """What net answers; k01=9: office 0 knows of 9 coins paid by office 1; p01=9: these were paid."""
    told_rows = [offices]
    for o in range(offices):
        told_rows.append(2 * offices)
        for p in range(offices):
            told_rows.extend([paid.get(f"k{o}{p}", 0), paid.get(f"p{o}{p}", 0)])
    return told_rows


WEIGHTS = (0, 4, 1, 2, 4, 10, 36, 2, 9, 1, 4, 4, 2, 1, 7, 0.5, 1, 2, 2, 1, 1, 1)


def likely_calls(pick, world):
    """One of each call, with numbers that are likely, but not sure, to be taken."""
    o = pick.randrange(max(1, len(world.offices)))
    orders = [(number, part.key) for place in world.offices for number, part in place.orders.items()]
    n, key = pick.choice([(10, 1)] + orders[-8:])
    m = len(world.messages) - 1 - int(pick.expovariate(0.4))
    at = pick.choice([0] * 15 + [1, 2, 3])
    claims = [(p, part) for p, place in enumerate(world.offices) for part in place.claims.values()]
    ready = [pair for pair in claims if pair[1].may_pay()]
    p, part = pick.choice(claims[-3:] + 2 * ready[-3:] + [(o, None)])
    claimed, g = (n, 1) if part is None else (part.order, part.grant)
    home = pick.choice([o, n % 10, n % 10])
    low = [down for down, place in enumerate(world.offices) if not place.up]
    return [begin(pick.randrange(1, 6), pick.randrange(3), pick.randrange(20, 300), pick.randrange(5, 60)),
            pass_on(pick.randrange(8)), clock(o, pick.randrange(-9, 9)), fill(o, pick.randrange(1, 500)),
            issue(o, pick.randrange(1, 100), pick.randrange(3), at), present(o, n, pick.choice([key, key, key, 1])),
            deliver(m), lose(m), pay(p, claimed, at), giveup(p, claimed), query(home, n), tell(p, claimed, g),
            refund(home, n, at), cut(o), count(pick.choice(low or [o])), go_round(), office(o), order(n),
            claim(p, claimed), msg(m), net(), sums()]


def likely_call(pick, world):
    return pick.choices(likely_calls(pick, world), WEIGHTS)[0]

"""The refusals that several calls share. Each function answers the refusal's number, or 0 where there is none."""

NOT_SO = -3
OVER = -4
ABSENT = -5
DOWN = -6
SHORT = -7
TOO_MUCH = -8
FULL = -9
OUTSIDE = -12

MOST_CASH = 1000000000
MOST_KEY = 9999
MOST_NUMBER = 100000
MOST_GRANT = 1000
MOST_CUT = 3
MOST_MESSAGES = 300
MOST_ISSUES = 100


def outside(n, least, most):
    return 0 if least <= n <= most else OUTSIDE


def bad_number(n):
    return outside(n, 0, MOST_NUMBER)


def bad_key(key):
    return outside(key, 0, MOST_KEY)


def bad_grant(g):
    return outside(g, 0, MOST_GRANT)


def bad_cut(cut):
    return outside(cut, 0, MOST_CUT)


def no_office(world, o):
    return 0 if 0 <= o < len(world.offices) else ABSENT


def not_up(world, o):
    return no_office(world, o) or down(world, o)


def down(world, o):
    return 0 if world.offices[o].up else DOWN


def no_message(world, m):
    return 0 if 0 <= m < len(world.messages) else ABSENT


def full(world):
    return FULL if len(world.messages) >= MOST_MESSAGES else 0


def too_much_cash(world, more):
    return TOO_MUCH if world.all_cash() + more > MOST_CASH else 0


def too_many_issues(world, o):
    return FULL if world.offices[o].issues_begun >= MOST_ISSUES else 0

"""All offices, the time, and the messages between them."""

from moneyorders.journals import Office

MAY_I = 1
YOU_MAY = 2
NO = 3
I_PAID = 4
NEVER = 5
DID_YOU = 6


# amount is the coins of kind 2 and the key of kind 1.
class Message:
    def __init__(self, kind, order, grant, sender, receiver, amount, till):
        self.kind = kind
        self.order = order
        self.grant = grant
        self.sender = sender
        self.receiver = receiver
        self.amount = amount
        self.till = till
        self.gone = False


class World:
    def __init__(self):
        self.renew(0, 0, 0, 0)

    def renew(self, offices, fee, life, lease):
        self.time = 0
        self.fee = fee
        self.life = life
        self.lease = lease
        self.offices = [Office() for o in range(offices)]
        self.messages = []

    def clock_of(self, o):
        return self.time + self.offices[o].offset

    def all_cash(self):
        return sum([office.drawer for office in self.offices])

    def all_records(self):
        return sum([len(office.journal) for office in self.offices])

    def send(self, message):
        self.messages.append(message)
        return len(self.messages) - 1


# The last digit of an order's number, whether such an office is there or not.
def home_of(n):
    return n % 10

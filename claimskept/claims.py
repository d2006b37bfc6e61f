"""The program's one function for others: answers(calls)."""

from claimskept.keeper import Keeper, call_alerts, call_breakers, call_claim
from claimskept.keeper import call_put, call_status, call_table, call_take
from claimskept.trees import text_of

TABLE = 0
CLAIM = 1
PUT = 2
TAKE = 3
STATUS = 4
BREAKERS = 5
ALERTS = 6


class UnknownCall(ValueError):
    pass


class Cursor:
    def __init__(self, calls):
        self.calls = calls
        self.place = 0

    def at_end(self):
        return self.place >= len(self.calls)

    def read_number(self):
        self.place += 1
        return self.calls[self.place - 1]

    def read_text(self):
        start = self.place + 1
        self.place = start + self.calls[self.place]
        return text_of(self.calls[start:self.place])


def answer_claim(keeper, cursor):
    level = cursor.read_number()
    owner = cursor.read_text()
    return call_claim(keeper, level, owner, cursor.read_text())


def answer_put(keeper, cursor):
    name = cursor.read_text()
    return call_put(keeper, name, cursor.read_text())


def answer_take(keeper, cursor):
    number = cursor.read_number()
    return call_take(keeper, number, cursor.read_text())


def answer_call(keeper, cursor):
    call = cursor.read_number()
    if call == TABLE:
        return call_table(keeper, cursor.read_text())
    if call == CLAIM:
        return answer_claim(keeper, cursor)
    if call == PUT:
        return answer_put(keeper, cursor)
    if call == TAKE:
        return answer_take(keeper, cursor)
    if call == STATUS:
        return call_status(keeper)
    if call == BREAKERS:
        return call_breakers(keeper, cursor.read_number())
    if call == ALERTS:
        return call_alerts(keeper, cursor.read_number())
    raise UnknownCall(f"no call has the number {call}")


def answers(calls):
    keeper = Keeper()
    cursor = Cursor(calls)
    told = []
    while not cursor.at_end():
        answer = answer_call(keeper, cursor)
        told.append(len(answer))
        told.extend(answer)
    return told

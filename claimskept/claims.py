"""The program's one function for others: answers(calls)."""

from claimskept.keeper import Keeper, call_claim, call_day, call_put, call_table, call_take, call_undo
from claimskept.telling import call_alerts, call_breakers, call_drift, call_history
from claimskept.telling import call_owned, call_shown, call_status, call_turns
from claimskept.trees import text_of

TABLE = 0
CLAIM = 1
PUT = 2
TAKE = 3
STATUS = 4
BREAKERS = 5
ALERTS = 6
OWNED = 7
TURNS = 8
DAY = 9
HISTORY = 10
DRIFT = 11
SHOWN = 12
UNDO = 13


class UnknownCall(ValueError):
    pass


class Cursor:
    def __init__(self, calls):
        self.calls = calls
        self.place = 0

    def at_end(self):
        return self.place >= len(self.calls)

    def read_number(self):
        self.place += 1
        return self.calls[self.place - 1]

    def read_text(self):
        start = self.place + 1
        self.place = start + self.calls[self.place]
        return text_of(self.calls[start:self.place])


def answer_claim(keeper, cursor):
    level = cursor.read_number()
    owner = cursor.read_text()
    return call_claim(keeper, level, owner, cursor.read_text())


def answer_put(keeper, cursor):
    name = cursor.read_text()
    return call_put(keeper, name, cursor.read_text())


def answer_take(keeper, cursor):
    number = cursor.read_number()
    return call_take(keeper, number, cursor.read_text())


def answer_drift(keeper, cursor):
    number = cursor.read_number()
    return call_drift(keeper, number, cursor.read_number())


# What changes the object; None if the call is another one.
def answer_change(call, keeper, cursor):
    if call == TABLE:
        return call_table(keeper, cursor.read_text())
    if call == CLAIM:
        return answer_claim(keeper, cursor)
    if call == PUT:
        return answer_put(keeper, cursor)
    if call == TAKE:
        return answer_take(keeper, cursor)
    if call == DAY:
        return call_day(keeper)
    if call == UNDO:
        return call_undo(keeper)
    return None


def answer_telling(call, keeper, cursor):
    if call == STATUS:
        return call_status(keeper)
    if call == BREAKERS:
        return call_breakers(keeper, cursor.read_number())
    if call == ALERTS:
        return call_alerts(keeper, cursor.read_number())
    if call == OWNED:
        return call_owned(keeper, cursor.read_text())
    if call == TURNS:
        return call_turns(keeper)
    if call == HISTORY:
        return call_history(keeper, cursor.read_number())
    if call == DRIFT:
        return answer_drift(keeper, cursor)
    if call == SHOWN:
        return call_shown(keeper, cursor.read_text())
    raise UnknownCall(f"no call has the number {call}")


def answer_call(keeper, cursor):
    call = cursor.read_number()
    answer = answer_change(call, keeper, cursor)
    return answer_telling(call, keeper, cursor) if answer is None else answer


def answers(calls):
    keeper = Keeper()
    cursor = Cursor(calls)
    told = []
    while not cursor.at_end():
        answer = answer_call(keeper, cursor)
        told.append(len(answer))
        told.extend(answer)
    return told

"""The calls that only tell: they leave the object as it is.

Each call answers a list of whole numbers; a refusal is its number alone.
"""

from claimskept.keeper import LEVELS
from claimskept.tables import tree_of
from claimskept.trees import numbers_of, written, written_trees

MOST_TURNS_TOLD = 100
MOST_DRIFT = 1000
MOST_BYTES_TOLD = 12000


def has_claim(keeper, number):
    return 0 <= number < len(keeper.claims)


def with_text(numbers, text):
    if len(text) > MOST_BYTES_TOLD:
        return [-8]
    return numbers + numbers_of(text)


def call_status(keeper):
    return [len(keeper.claims)] + [len(breakers) for breakers in keeper.breakers]


def call_breakers(keeper, number):
    if not has_claim(keeper, number):
        return [-3]
    answer = [len(keeper.breakers[number])]
    for numbers in keeper.breakers[number]:
        answer.append(len(numbers))
        answer.extend(numbers)
    return answer


def call_alerts(keeper, level):
    if level not in LEVELS:
        return [-7]
    answer = [0]
    for number, claim in enumerate(keeper.claims):
        if claim.level >= level and len(keeper.breakers[number]) > 0:
            answer[0] += 1
            answer.extend([number, claim.level])
    return answer


def call_owned(keeper, owner):
    answer = [0]
    for number, claim in enumerate(keeper.claims):
        if claim.owner == owner:
            answer[0] += 1
            answer.extend([number, len(keeper.breakers[number])])
    return answer


def call_turns(keeper):
    return with_text([len(keeper.turns)], written_trees(keeper.turns[-MOST_TURNS_TOLD:]))


def call_history(keeper, number):
    if not has_claim(keeper, number):
        return [-3]
    return [len(keeper.histories[number])] + keeper.histories[number]


def call_drift(keeper, number, most):
    if most < 0 or most > MOST_DRIFT:
        return [-7]
    if not has_claim(keeper, number):
        return [-3]
    history = keeper.histories[number]
    if len(history) == 0:
        return [-9]
    count = len(keeper.breakers[number])
    return [1 if abs(count - history[-1]) <= most else 0, history[-1], count]


def call_shown(keeper, name):
    if name not in keeper.tables:
        return [-3]
    return with_text([], written(tree_of(keeper.tables[name])))

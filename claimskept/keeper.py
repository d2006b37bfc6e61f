"""The object that holds tables and kept claims, and the calls that change it.

Each call answers a list of whole numbers; a refusal is its number alone.
"""

from claimskept.breakers import breakers_behind_put, breakers_behind_take, find_breakers
from claimskept.shapes import is_claim, is_there
from claimskept.tables import MOST_ROWS, Table, is_row, is_table, row_fits, rows_fit, tells_twice
from claimskept.trees import is_word, read_tree

MOST_TABLES = 3
MOST_CLAIMS = 12
MOST_CLAIM_BYTES = 700
MOST_STEPS = 10
LEVELS = (0, 1, 2)


class Claim:
    def __init__(self, level, owner, tree):
        self.level = level
        self.owner = owner
        self.tree = tree


# What is held is replaced by another value, never changed in place: so a step that can be undone
# keeps just the values of then. Breakers and histories stand in the claims' order.
class Keeper:
    def __init__(self):
        self.tables = {}
        self.claims = []
        self.breakers = []
        self.histories = []
        self.turns = []
        self.day = 0
        self.steps = []


# Called when a call can't be refused any more and nothing is changed yet.
def remember(keeper):
    step = (keeper.tables, keeper.claims, keeper.breakers, keeper.histories, keeper.turns, keeper.day)
    keeper.steps = (keeper.steps + [step])[-MOST_STEPS:]


def hold_table(keeper, table):
    tables = dict(keeper.tables)
    tables[table.name] = table
    keeper.tables = tables


# A turn is the tree that tells it: (day claim broken) or (day claim held).
def turns_between(day, before, behind):
    turns = []
    for number, breakers in enumerate(behind):
        was_broken = number < len(before) and len(before[number]) > 0
        is_broken = len(breakers) > 0
        if was_broken != is_broken:
            turns.append((day, number, "broken" if is_broken else "held"))
    return turns


# How many claims turned broken, how many turned held.
def hold_breakers(keeper, breakers):
    turns = turns_between(keeper.day, keeper.breakers, breakers)
    keeper.breakers = breakers
    keeper.turns = keeper.turns + turns
    broken = len([turn for turn in turns if turn[2] == "broken"])
    return [broken, len(turns) - broken]


def call_table(keeper, text):
    tree = read_tree(text)
    if tree is None:
        return [-1]
    if not is_table(tree):
        return [-2]
    table = Table(tree[1], tree[2], tree[3:])
    if tells_twice(table.columns):
        return [-3]
    if not rows_fit(table.rows, table.columns):
        return [-4]
    if table.name in keeper.tables:
        return [-5]
    if len(keeper.tables) == MOST_TABLES:
        return [-6]
    remember(keeper)
    hold_table(keeper, table)
    return [len(table.columns), len(table.rows)]


def call_claim(keeper, level, owner, text):
    if level not in LEVELS:
        return [-7]
    if not is_word(owner):
        return [-10]
    tree = read_tree(text)
    if tree is None or len(text) > MOST_CLAIM_BYTES:
        return [-1]
    if not is_claim(tree):
        return [-2]
    if not is_there(tree, keeper.tables):
        return [-3]
    if len(keeper.claims) == MOST_CLAIMS:
        return [-6]
    remember(keeper)
    found = find_breakers(tree, keeper.tables)
    keeper.claims = keeper.claims + [Claim(level, owner, tree)]
    keeper.histories = keeper.histories + [[]]
    hold_breakers(keeper, keeper.breakers + [found])
    return [len(keeper.claims) - 1, len(found)]


def call_put(keeper, name, text):
    if name not in keeper.tables:
        return [-3]
    row = read_tree(text)
    if row is None:
        return [-1]
    if not is_row(row):
        return [-2]
    table = keeper.tables[name]
    if not row_fits(row, table.columns):
        return [-4]
    if len(table.rows) == MOST_ROWS:
        return [-6]
    remember(keeper)
    hold_table(keeper, Table(name, table.columns, table.rows + (row,)))
    breakers = []
    for claim, before in zip(keeper.claims, keeper.breakers):
        breakers.append(breakers_behind_put(claim.tree, before, keeper.tables, name))
    return [len(table.rows)] + hold_breakers(keeper, breakers)


def call_take(keeper, number, name):
    if name not in keeper.tables:
        return [-3]
    table = keeper.tables[name]
    if number < 0 or number >= len(table.rows):
        return [-4]
    remember(keeper)
    left = table.rows[:number] + table.rows[number + 1:]
    hold_table(keeper, Table(name, table.columns, left))
    breakers = []
    for claim, before in zip(keeper.claims, keeper.breakers):
        breakers.append(breakers_behind_take(claim.tree, before, keeper.tables, name, number))
    return [len(left)] + hold_breakers(keeper, breakers)


def call_day(keeper):
    remember(keeper)
    counts = [len(breakers) for breakers in keeper.breakers]
    keeper.histories = [history + [count] for history, count in zip(keeper.histories, counts)]
    keeper.day = keeper.day + 1
    return [keeper.day - 1, len([count for count in counts if count > 0])]


def call_undo(keeper):
    if len(keeper.steps) == 0:
        return [-9]
    step = keeper.steps[-1]
    keeper.tables = step[0]
    keeper.claims = step[1]
    keeper.breakers = step[2]
    keeper.histories = step[3]
    keeper.turns = step[4]
    keeper.day = step[5]
    keeper.steps = keeper.steps[:-1]
    return [len(keeper.steps)]

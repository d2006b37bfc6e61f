"""Promise 12: what is kept for a claim are its breakers in the tables as they are, whatever is called.

A plain model, which finds all breakers from nothing by the document's words, is asked beside the program.
"""

import copy
import itertools
import random
import unittest

from claimskept.keeper import Keeper, call_claim, call_day, call_put, call_table, call_take, call_undo
from tests.helper import (
    alerts, breakers, claim, day, drift, history, owned, put, questions, run, shown, status, table, take, text_numbers,
    turns, undo,
)

# The numbers of the calls that can be undone.
STEPS = (0, 1, 2, 3, 9)
ALL_QUESTIONS = questions("tu", 12)
COLUMNS = {"t": [("n", 4, False), ("m", 3, True), ("w", "abc", False)], "u": [("k", 4, True), ("v", "abd", True)]}


def written(tree):
    return str(tree) if isinstance(tree, (int, str)) else "(" + " ".join(written(part) for part in tree) + ")"


def value(tree, rows):
    if isinstance(tree, int):
        return tree
    head, args = tree[0], tree[1:]
    if head == "word":
        return args[0]
    if head in ("col", "one", "two"):
        return rows[1 if head == "two" else 0][args[0]]
    left, right = value(args[0], rows), value(args[1], rows)
    if not isinstance(left, int) or not isinstance(right, int):
        return None
    total = left + right if head == "add" else left - right
    return total if total >= 0 else None


def truth(tree, rows):
    head, args = tree[0], tree[1:]
    if head in ("and", "or"):
        parts = [truth(part, rows) for part in args]
        return all(parts) if head == "and" else any(parts)
    if head == "not":
        return not truth(args[0], rows)
    values = [value(part, rows) for part in args]
    if head == "gone":
        return values[0] is None
    if head == "same":
        return None not in values and values[0] == values[1]
    return all(isinstance(one, int) for one in values) and values[0] < values[1]


def cells(row, names):
    return [row[name] for name in names]


def model_groups(tree, rows):
    found = []
    for number, row in enumerate(rows):
        group = [k for k, other in enumerate(rows) if cells(row, tree[2]) == cells(other, tree[2])]
        measure = len(group) if tree[3] == ["count"] else sum(rows[k][tree[3][1]] or 0 for k in group)
        if group[0] == number and not tree[4] <= measure <= tree[5]:
            found.append(group)
    return found


def model_breakers(tree, tables):
    head, rows = tree[0], tables[tree[1]]
    numbers = range(len(rows))
    pairs = [list(pair) for pair in itertools.combinations(numbers, 2)]
    if head == "each":
        return [[k] for k in numbers if not truth(tree[2], [rows[k]])]
    if head == "any":
        return [] if any(truth(tree[2], [row]) for row in rows) else [[]]
    if head == "refers":
        others = [cells(other, tree[4]) for other in tables[tree[3]]]
        return [[k] for k in numbers if None not in cells(rows[k], tree[2]) and cells(rows[k], tree[2]) not in others]
    if head == "groups":
        return model_groups(tree, rows)
    if head == "next":
        pairs = [pair for pair in pairs if pair[1] == pair[0] + 1]
    if head in ("pairs", "next"):
        return [pair for pair in pairs if not truth(tree[2], [rows[k] for k in pair])]
    alike = [pair for pair in pairs if cells(rows[pair[0]], tree[2]) == cells(rows[pair[1]], tree[2])]
    if head == "key":
        return alike
    return [pair for pair in alike if cells(rows[pair[0]], tree[3]) != cells(rows[pair[1]], tree[3])]


class Maker:
    """Makes tables, claims and rows from a seed, the same ones each time."""

    def __init__(self, seed):
        self.chance = random.Random(seed)

    def cell(self, kind, maybe):
        if maybe and self.chance.random() < 0.3:
            return None
        return self.chance.randrange(kind) if isinstance(kind, int) else self.chance.choice(kind)

    def row(self, name):
        return {column: self.cell(kind, maybe) for column, kind, maybe in COLUMNS[name]}

    def names(self, name, least):
        return [self.chance.choice(COLUMNS[name])[0] for k in range(self.chance.randint(least, 2))]

    def expression(self, name, heads, depth):
        pick = self.chance.randrange(6 if depth > 0 else 4)
        if pick == 0:
            return self.chance.randrange(4)
        if pick == 1:
            return ["word", self.chance.choice("abcd")]
        if pick < 4:
            return [self.chance.choice(heads), self.chance.choice(COLUMNS[name])[0]]
        return [["add", "sub"][pick - 4]] + [self.expression(name, heads, depth - 1) for k in range(2)]

    def condition(self, name, heads, depth):
        pick = self.chance.choice(["less", "same", "gone"] + (["and", "or", "not"] if depth > 0 else []))
        if pick in ("and", "or"):
            return [pick] + [self.condition(name, heads, depth - 1) for k in range(self.chance.randrange(4))]
        if pick == "not":
            return [pick, self.condition(name, heads, depth - 1)]
        return [pick] + [self.expression(name, heads, 2) for k in range(1 if pick == "gone" else 2)]

    def claim(self):
        head = self.chance.choice(["each", "any", "pairs", "next", "key", "fixes", "refers", "groups"])
        name = self.chance.choice("ttu")
        if head in ("each", "any"):
            return [head, name, self.condition(name, ["col"], 3)]
        if head in ("pairs", "next"):
            return [head, name, self.condition(name, ["one", "two"], 3)]
        if head == "key":
            return [head, name, self.names(name, 0)]
        if head == "fixes":
            return [head, name, self.names(name, 0), self.names(name, 0)]
        if head == "refers":
            other = self.chance.choice("tu")
            own = self.names(name, 1)
            return [head, name, own, other, [self.chance.choice(COLUMNS[other])[0] for column in own]]
        measure = self.chance.choice([["count"], ["sum", {"t": self.chance.choice("nm"), "u": "k"}[name]]])
        low = self.chance.randrange(4)
        return [head, name, self.names(name, 0), measure, low, low + self.chance.randrange(4)]


def row_tree(row):
    return [[] if cell is None else cell for cell in row.values()]


def table_text(name, rows):
    columns = []
    for column, kind, maybe in COLUMNS[name]:
        told = ["up", kind] if isinstance(kind, int) else ["of"] + list(kind)
        columns.append([column, told] + (["maybe"] if maybe else []))
    return written(["table", name, columns] + [row_tree(row) for row in rows])


class Story:
    """One object's calls, with what the model says must be answered to each."""

    def __init__(self, seed):
        self.maker = Maker(seed)
        self.calls = []
        self.wanted = []
        self.tables = {}
        self.claims = []
        self.state = []
        self.ends = []
        self.turns = []
        self.day = 0
        self.earlier = []

    def keep_step(self):
        held = (self.tables, self.claims, self.state, self.ends, self.turns, self.day)
        self.earlier = (self.earlier + [copy.deepcopy(held)])[-10:]

    def add(self, call, answer):
        self.calls.append(call)
        self.wanted.append(answer)

    def add_table(self, name):
        self.keep_step()
        self.tables[name] = [self.maker.row(name) for k in range(self.maker.chance.randrange(6))]
        self.add(table(table_text(name, self.tables[name])), [len(COLUMNS[name]), len(self.tables[name])])

    def add_claim(self):
        self.keep_step()
        tree = self.maker.claim()
        level = self.maker.chance.randrange(3)
        owner = self.maker.chance.choice(["ann", "o"])
        self.claims.append((level, tree, owner))
        self.ends.append([])
        self.state.append([])
        self.turned()
        self.add(claim(level, owner, written(tree)), [len(self.claims) - 1, len(self.state[-1])])

    def turned(self):
        before = [len(sets) > 0 for sets in self.state]
        self.state = [model_breakers(tree, self.tables) for level, tree, owner in self.claims]
        behind = [len(sets) > 0 for sets in self.state]
        for number in range(len(self.claims)):
            if before[number] != behind[number]:
                self.turns.append("(%d %d %s)" % (self.day, number, "broken" if behind[number] else "held"))
        both = list(zip(before, behind))
        return [both.count((False, True)), both.count((True, False))]

    def add_day(self):
        self.keep_step()
        for ends, sets in zip(self.ends, self.state):
            ends.append(len(sets))
        self.day += 1
        self.add(day(), [self.day - 1, sum(1 for sets in self.state if sets)])

    def add_undo(self):
        if not self.earlier:
            self.add(undo(), [-9])
            return
        self.tables, self.claims, self.state, self.ends, self.turns, self.day = self.earlier.pop()
        self.add(undo(), [len(self.earlier)])

    def add_change(self):
        self.keep_step()
        name = self.maker.chance.choice("tu")
        rows = self.tables[name]
        if rows and self.maker.chance.random() < 0.5:
            number = self.maker.chance.randrange(len(rows))
            self.tables[name] = rows[:number] + rows[number + 1:]
            self.add(take(number, name), [len(rows) - 1] + self.turned())
        else:
            row = self.maker.row(name)
            self.tables[name] = rows + [row]
            self.add(put(name, written(row_tree(row))), [len(rows)] + self.turned())

    def add_question(self):
        self.add(status(), [len(self.state)] + [len(sets) for sets in self.state])
        self.add(turns(), [len(self.turns)] + text_numbers(" ".join(self.turns[-100:])))
        name = self.maker.chance.choice("tu")
        told = text_numbers(table_text(name, self.tables[name])) if name in self.tables else [-3]
        self.add(shown(name), told)
        owner = self.maker.chance.choice(["ann", "o"])
        pairs = [(k, len(sets)) for k, sets in enumerate(self.state) if self.claims[k][2] == owner]
        self.add(owned(owner), [len(pairs)] + [number for pair in pairs for number in pair])
        self.add_question_of_one(self.maker.chance.randrange(max(1, len(self.state))))
        level = self.maker.chance.randrange(3)
        broken = [(k, self.claims[k][0]) for k, sets in enumerate(self.state) if sets and self.claims[k][0] >= level]
        self.add(alerts(level), [len(broken)] + [number for pair in broken for number in pair])

    def add_question_of_one(self, number):
        if number >= len(self.state):
            for call in [breakers(number), history(number), drift(number, 3)]:
                self.add(call, [-3])
            return
        told = [len(self.state[number])]
        for rows in self.state[number]:
            told.extend([len(rows)] + rows)
        self.add(breakers(number), told)
        ends = self.ends[number]
        self.add(history(number), [len(ends)] + ends)
        most = self.maker.chance.randrange(3)
        now = len(self.state[number])
        close = ends and now <= ends[-1] + most and now >= ends[-1] - most
        self.add(drift(number, most), [int(close), ends[-1], now] if ends else [-9])


def story(seed):
    made = Story(seed)
    made.add_table("t")
    made.add_table("u")
    for k in range(4):
        made.add_claim()
    while len(made.calls) < 50:
        if len(made.claims) < 12 and made.maker.chance.random() < 0.2:
            made.add_claim()
        made.add_change()
        if made.maker.chance.random() < 0.2:
            made.add_day()
        if len(made.calls) <= 40 and made.maker.chance.random() < 0.3:
            made.add_question()
    made.add_question()
    return made


def story_with_undo(seed):
    """Changes, days and undos as they come, back to the new object too; then everything is asked."""
    made = Story(seed)
    pick = made.maker.chance
    while len(made.calls) < 51:
        missing = [name for name in "tu" if name not in made.tables]
        if pick.random() < 0.35:
            made.add_undo()
        elif missing:
            made.add_table(missing[0])
        elif len(made.claims) < 12 and pick.random() < 0.4:
            made.add_claim()
        elif pick.random() < 0.25:
            made.add_day()
        else:
            made.add_change()
        if len(made.calls) < 42 and pick.random() < 0.15:
            made.add_question()
    made.add_question()
    return made


class AsTheTablesAre(unittest.TestCase):
    def test_every_answer_is_the_models(self):
        for seed in range(300):
            self.check(seed, story(seed))

    def test_every_answer_is_the_models_with_undo(self):
        for seed in range(300):
            self.check(seed, story_with_undo(seed))

    def check(self, seed, made):
        self.assertEqual(len(made.calls), len(made.wanted))
        for number, (answer, wanted) in enumerate(zip(run(*made.calls), made.wanted)):
            self.assertEqual(answer, wanted, (seed, number, made.claims))

    def test_undone_calls_are_as_if_they_never_were(self):
        for seed in range(400, 460):
            made = story_with_undo(seed)
            steps = []
            left = []
            for call, answer in zip(made.calls, made.wanted):
                if call[0] in STEPS or call == undo():
                    steps.append(call)
                if call[0] in STEPS:
                    left.append(call)
                elif call == undo() and answer != [-9]:
                    left.pop()
            for asked in ALL_QUESTIONS:
                self.assertEqual(run(*steps, asked)[-1], run(*left, asked)[-1], (seed, asked))

    def test_the_same_as_if_the_claims_came_last(self):
        for seed in range(300, 400):
            made = story(seed)
            changes = [call for call in made.calls if call[0] <= 3]
            count = min(len(made.claims), 60 - len(changes))
            asked = [breakers(number) for number in range(count)]
            fresh = [table(table_text(name, rows)) for name, rows in made.tables.items()]
            kept = [claim(level, owner, written(tree)) for level, tree, owner in made.claims]
            self.assertEqual(run(*changes, *asked)[-count:], run(*fresh, *kept, *asked)[-count:], seed)


class Turns(unittest.TestCase):
    def setUp(self):
        self.keeper = Keeper()
        call_table(self.keeper, "(table t ((n (up 5))) (1) (1))")

    def test_a_claim_that_is_broken_when_it_comes_turns_then(self):
        call_claim(self.keeper, 0, "ann", "(key t (n))")
        call_claim(self.keeper, 0, "bob", "(each t (and))")
        self.assertEqual(self.keeper.turns, [(0, 0, "broken")])
        self.assertEqual([kept.owner for kept in self.keeper.claims], ["ann", "bob"])

    def test_turns_of_one_call_are_in_the_claims_order(self):
        for text in ["(key t (n))", "(groups t () (count) 0 2)", "(any t (same (col n) 2))"]:
            call_claim(self.keeper, 0, "o", text)
        self.assertEqual(call_take(self.keeper, 0, "t"), [1, 0, 1])
        self.assertEqual(call_put(self.keeper, "t", "(2)"), [1, 0, 1])
        self.assertEqual(call_put(self.keeper, "t", "(1)"), [2, 2, 0])
        self.assertEqual(self.keeper.turns, [(0, 0, "broken"), (0, 2, "broken"), (0, 0, "held"), (0, 2, "held"),
                                             (0, 0, "broken"), (0, 1, "broken")])

    def test_by_turns_broken_and_held_and_the_last_as_it_is_now(self):
        for seed in range(50):
            maker = Maker(seed)
            keeper = Keeper()
            for name in ["t", "u"]:
                call_table(keeper, table_text(name, []))
            for k in range(12):
                call_claim(keeper, 0, "o", written(maker.claim()))
            for k in range(40):
                name = maker.chance.choice("tu")
                if call_take(keeper, maker.chance.randrange(12), name) == [-4]:
                    call_put(keeper, name, written(row_tree(maker.row(name))))
            for number in range(12):
                told = [turn[2] for turn in keeper.turns if turn[1] == number]
                self.assertEqual(told, [["broken", "held"][k % 2] for k in range(len(told))])
                self.assertEqual(len(told) % 2 == 1, len(keeper.breakers[number]) > 0)

    def test_by_turns_over_days_and_undos_too(self):
        for seed in range(40):
            made = story_with_undo(seed)
            calls = [call for call in made.calls if call[0] in STEPS or call == undo()]
            for count in range(1, len(calls) + 1):
                found = run(*calls[:count], turns(), status())
                told = bytes(found[-2][1:]).decode("ascii").strip("()").split(") (")
                for number, broken in enumerate(found[-1][1:]):
                    own = [turn.split()[2] for turn in told if turn.split()[1:2] == [str(number)]]
                    self.assertEqual(own, [["broken", "held"][k % 2] for k in range(len(own))], (seed, count))
                    self.assertEqual(len(own) % 2 == 1, broken > 0, (seed, count))

    def test_a_refusal_leaves_no_turn(self):
        call_claim(self.keeper, 0, "o", "(key t (n))")
        for answer in [call_put(self.keeper, "t", "(9)"), call_take(self.keeper, 2, "t"), call_claim(self.keeper, 0, "o", "(key)")]:
            self.assertLess(answer[0], 0)
        self.assertEqual(self.keeper.turns, [(0, 0, "broken")])

    def test_what_is_held_is_replaced_not_changed(self):
        call_claim(self.keeper, 0, "o", "(key t (n))")
        keeper = self.keeper
        call_day(keeper)
        held = (keeper.tables, keeper.claims, keeper.breakers, keeper.turns, keeper.histories, keeper.steps)
        told = (dict(keeper.tables), list(keeper.claims), [list(sets) for sets in keeper.breakers], list(keeper.turns),
                [list(numbers) for numbers in keeper.histories], list(keeper.steps))
        rows = keeper.tables["t"].rows
        call_put(keeper, "t", "(1)")
        call_take(keeper, 0, "t")
        call_take(keeper, 0, "t")
        call_claim(keeper, 0, "o", "(any t (or))")
        call_table(keeper, "(table u ((n (up 5))))")
        call_day(keeper)
        call_undo(keeper)
        call_day(keeper)
        self.assertEqual(held, told)
        self.assertEqual(held[0]["t"].rows, rows)


if __name__ == "__main__":
    unittest.main()

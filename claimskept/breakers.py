"""The breakers of a claim: found from nothing, or carried on behind a row that came or went.

A breaker is the tuple of its rows' numbers, rising; a claim's breakers are a list of them, in order.
"""

from claimskept.conditions import holds

# One walk over the rows finds the breakers of these, so behind a change they are found from nothing.
# Those of all others are looked at by one or two rows, and only the rows that a change touches are.
BY_WALK = ("any", "refers", "groups")


def cells_in(table, row, names):
    return tuple([row[table.places[name]] for name in names])


def any_breakers(tree, table):
    for row in table.rows:
        if holds(tree[2], table.places, row, row):
            return []
    return [()]


def refers_breakers(tree, table, other):
    told = {}
    for row in other.rows:
        told[cells_in(other, row, tree[4])] = True
    found = []
    for number, row in enumerate(table.rows):
        cells = cells_in(table, row, tree[2])
        if () not in cells and cells not in told:
            found.append((number,))
    return found


def measured(measure, table, numbers):
    if measure[0] == "count":
        return len(numbers)
    place = table.places[measure[1]]
    return sum([table.rows[number][place] for number in numbers if table.rows[number][place] != ()])


def groups_breakers(tree, table):
    groups = {}
    for number, row in enumerate(table.rows):
        groups.setdefault(cells_in(table, row, tree[2]), []).append(number)
    found = []
    for numbers in groups.values():
        if not tree[4] <= measured(tree[3], table, numbers) <= tree[5]:
            found.append(tuple(numbers))
    return found


def walked_breakers(tree, tables):
    table = tables[tree[1]]
    if tree[0] == "any":
        return any_breakers(tree, table)
    if tree[0] == "refers":
        return refers_breakers(tree, table, tables[tree[3]])
    return groups_breakers(tree, table)


def breaks(tree, table, numbers):
    first = table.rows[numbers[0]]
    second = table.rows[numbers[-1]]
    if tree[0] != "key" and tree[0] != "fixes":
        return not holds(tree[2], table.places, first, second)
    if cells_in(table, first, tree[2]) != cells_in(table, second, tree[2]):
        return False
    return tree[0] == "key" or cells_in(table, first, tree[3]) != cells_in(table, second, tree[3])


# What an each, next, pairs, key or fixes has to look at because of the last of so many rows.
def sets_with_last(head, count):
    last = count - 1
    if head == "each":
        return [(last,)]
    if head == "next":
        return [(last - 1, last)] if last > 0 else []
    return [(number, last) for number in range(last)]


def breaking(tree, table, sets):
    return [numbers for numbers in sets if breaks(tree, table, numbers)]


def find_breakers(tree, tables):
    if tree[0] in BY_WALK:
        return walked_breakers(tree, tables)
    table = tables[tree[1]]
    found = []
    for count in range(1, len(table.rows) + 1):
        found.extend(breaking(tree, table, sets_with_last(tree[0], count)))
    return sorted(found)


def reads_table(tree, name):
    return tree[1] == name or (tree[0] == "refers" and tree[3] == name)


# The tables are those behind the put: the row stands last in the table of this name.
def breakers_behind_put(tree, before, tables, name):
    if not reads_table(tree, name):
        return before
    if tree[0] in BY_WALK:
        return walked_breakers(tree, tables)
    table = tables[name]
    return sorted(before + breaking(tree, table, sets_with_last(tree[0], len(table.rows))))


def renumbered(numbers, taken):
    return tuple([number - 1 if number > taken else number for number in numbers])


# The tables are those behind the take. Only for a next it brings two rows together that weren't before.
def breakers_behind_take(tree, before, tables, name, taken):
    if not reads_table(tree, name):
        return before
    if tree[0] in BY_WALK:
        return walked_breakers(tree, tables)
    table = tables[name]
    left = [renumbered(numbers, taken) for numbers in before if taken not in numbers]
    if tree[0] == "next" and 0 < taken < len(table.rows):
        left.extend(breaking(tree, table, [(taken - 1, taken)]))
    return sorted(left)

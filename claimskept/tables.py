"""Tables: their shape as trees, and what their columns want of cells.

Columns and rows are kept as the trees they were told as; a missing cell is ().
"""

MOST_COLUMNS = 6
MOST_ROWS = 40
MOST_WORDS = 10


# Never changed once it is made: another row makes another table.
class Table:
    def __init__(self, name, columns, rows):
        self.name = name
        self.columns = columns
        self.rows = rows
        self.places = {}
        for place, column in enumerate(columns):
            self.places[column[0]] = place


def tree_of(table):
    return ("table", table.name, table.columns) + table.rows


def is_kind(tree):
    if not isinstance(tree, tuple) or len(tree) < 2:
        return False
    if tree[0] == "up":
        return len(tree) == 2 and isinstance(tree[1], int) and tree[1] >= 1
    if tree[0] != "of" or len(tree) > 1 + MOST_WORDS:
        return False
    return all([isinstance(word, str) for word in tree[1:]])


def is_column(tree):
    if not isinstance(tree, tuple) or len(tree) < 2 or len(tree) > 3:
        return False
    if len(tree) == 3 and tree[2] != "maybe":
        return False
    return isinstance(tree[0], str) and is_kind(tree[1])


def is_columns(tree):
    if not isinstance(tree, tuple) or len(tree) < 1 or len(tree) > MOST_COLUMNS:
        return False
    return all([is_column(column) for column in tree])


def is_cell(tree):
    return tree == () or isinstance(tree, (int, str))


def is_row(tree):
    return isinstance(tree, tuple) and all([is_cell(cell) for cell in tree])


def is_table(tree):
    if not isinstance(tree, tuple) or len(tree) < 3 or len(tree) > 3 + MOST_ROWS:
        return False
    if tree[0] != "table" or not isinstance(tree[1], str) or not is_columns(tree[2]):
        return False
    return all([is_row(row) for row in tree[3:]])


def has_double(things):
    return len(set(things)) != len(things)


def tells_twice(columns):
    if has_double([column[0] for column in columns]):
        return True
    return any([has_double(column[1][1:]) for column in columns])


def cell_fits(cell, column):
    if cell == ():
        return len(column) == 3
    kind = column[1]
    if kind[0] == "up":
        return isinstance(cell, int) and cell < kind[1]
    return cell in kind[1:]


def row_fits(row, columns):
    if len(row) != len(columns):
        return False
    return all([cell_fits(cell, column) for cell, column in zip(row, columns)])


def rows_fit(rows, columns):
    return all([row_fits(row, columns) for row in rows])

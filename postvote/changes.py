"""Changes: how many applicants of each group go from each option to each option, and their votes."""

from postvote.assignments import is_assignment
from postvote.checks import is_split, is_tuple_of
from postvote.errors import NoChange


def is_change(instance, assignment, value):
    """Whether any value is a change of the assignment."""
    if not is_tuple_of(value, len(assignment), len(assignment)):
        return False
    if not all([is_table(share, table) for share, table in zip(assignment, value)]):
        return False
    return is_assignment(instance, tables_result(value))


def is_table(share, value):
    """Whether any value takes all applicants of a group with these numbers from options to options."""
    if not is_tuple_of(value, len(share), len(share)):
        return False
    return all([is_split(row, len(share), number) for number, row in zip(share, value)])


def tables_result(tables):
    """The number of applicants whom the tables take to each option of each group."""
    return tuple([tuple([sum(column) for column in zip(*table)]) for table in tables])


def change_result(instance, assignment, change):
    """The assignment to which a change leads. Raises NoChange for any other value."""
    if not is_change(instance, assignment, change):
        raise NoChange()
    return tables_result(change)


def vote(start, end):
    """The vote of an applicant who goes from option start to option end: 1, 0 or -1."""
    if end < start:
        return 1
    return -1 if end > start else 0


def change_surplus(change):
    """The number of applicants who get a better option minus the number of those who get a worse one."""
    return sum([
        number * vote(start, end)
        for table in change
        for start, row in enumerate(table)
        for end, number in enumerate(row)
    ])


def stay_change(assignment):
    """The change in which nobody moves."""
    return tuple([tuple([stay_row(share, option) for option in range(len(share))]) for share in assignment])


def stay_row(share, option):
    """The row of an option whose applicants all stay."""
    return tuple([number if end == option else 0 for end, number in enumerate(share)])


def reverse_change(change):
    """The change of the result that takes everybody back."""
    return tuple([tuple([tuple(column) for column in zip(*table)]) for table in change])


def gathered_tables(assignment, rows):
    """The tables that consist of these rows, one for each option of each group, in order."""
    tables = []
    done = 0
    for share in assignment:
        tables.append(tuple(rows[done:done + len(share)]))
        done += len(share)
    return tuple(tables)

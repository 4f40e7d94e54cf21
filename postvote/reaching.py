"""Reaching: the best change from an assignment to an unbeaten one."""

from postvote.changes import change_surplus, gathered_tables, is_change, tables_result, vote
from postvote.checks import is_tuple_of, is_whole
from postvote.instances import reserve_option
from postvote.reserves import planned_numbers, reserve_transport
from postvote.unbeaten import is_unbeaten


def best_change(instance, assignment):
    """A tuple (surplus, change) with the greatest surplus of all changes whose result is unbeaten.

    Raises NoUnbeaten if there is none.
    """
    rows = option_rows(instance, assignment)
    plan = reserve_transport(instance, rows).plan
    found = [planned_numbers(instance, row[0], numbers) for row, numbers in zip(rows, plan)]
    change = gathered_tables(assignment, found)
    return change_surplus(change), change


def option_rows(instance, assignment):
    """The rows of a reserve_transport, one for each option of each group.

    All changes to unbeaten assignments take equally many applicants to reserves, so it does not matter for
    the choice that each of them costs 1 more than the votes that it loses.
    """
    rows = []
    for group, share in enumerate(assignment):
        reserve = reserve_option(instance, group)
        for start, number in enumerate(share):
            rows.append((group, number, 1 + vote(start, 0) - vote(start, reserve)))
    return rows


def best_change_holds(instance, assignment, value):
    """Whether any value is a change to an unbeaten assignment with the greatest surplus, behind this surplus."""
    if not is_tuple_of(value, 2, 2):
        return False
    surplus, change = value
    if not (is_whole(surplus) and is_change(instance, assignment, change)):
        return False
    if not is_unbeaten(instance, tables_result(change)):
        return False
    return change_surplus(change) == surplus and best_change(instance, assignment)[0] == surplus

"""Reserves: who keeps the post that is ranked first, and who takes the reserve option instead."""

from postvote.errors import NoUnbeaten
from postvote.instances import crowded_posts, option_post, reserve_option
from postvote.transports import option_columns, post_transport


def group_routes(instance):
    """For each group a tuple of its crowded option 0 and the post of its reserve option, None if that is no post.

    It is None instead of a tuple for a group that needs no reserve: its option 0 is no post, or is not crowded.
    """
    crowded = crowded_posts(instance)
    routes = []
    for group in range(len(instance[1])):
        first = option_post(instance, group, 0)
        if first in crowded:
            routes.append((first, option_post(instance, group, reserve_option(instance, group))))
        else:
            routes.append(None)
    return routes


def group_rows(instance, costs):
    """The rows of a reserve_transport in which each group is one row, with these costs."""
    return [(group, instance[1][group][1], cost) for group, cost in enumerate(costs)]


def reserve_transport(instance, rows):
    """A transport of rows (group, amount, cost) among option 0 and the reserve options of their groups.

    cost is that of the reserve option. It is greater than 0, and option 0 costs nothing, so a cheapest plan
    fills each crowded post with applicants who rank it first. Raises NoUnbeaten if the rows do not find room.
    """
    transport = post_transport(instance)
    routes = group_routes(instance)
    crowded = crowded_posts(instance)
    for group, amount, cost in rows:
        full = transport.add_row(amount, usable_columns(instance, group, routes[group], cost))
        if full is not None:
            # The rows in these columns can use no others, and with the rest of this row they do not fit.
            inside = tuple([post for post in full if post in crowded])
            raise NoUnbeaten(inside, tuple([post for post in full if post not in crowded]))
    return transport


def usable_columns(instance, group, route, cost):
    """The columns that a group may use, with their costs."""
    columns = option_columns(instance, group)
    if route is None:
        return {columns[0]: 0}
    return {columns[0]: 0, columns[reserve_option(instance, group)]: cost}


def planned_numbers(instance, group, numbers):
    """The numbers of a row of the plan in the order of the options of its group."""
    return tuple([numbers.get(column, 0) for column in option_columns(instance, group)])

"""What worlds and glasses share as machines: numbers of workers, items, orders and states.

A state is (rows, store); rows has (open group, what lies there) for each worker, store what lies in the store.
"""

from spoilorder.errors import BadMany, BadOrder, NoItem, NoWorker
from spoilorder.forms import is_integer, is_row

MOST_WORKERS = 3
LONGEST_ORDER = 12


def first_state(many, lying, store):
    """The state of so many workers that are fresh, with what lies on each of them and in the store."""
    if not is_integer(many, 1, MOST_WORKERS):
        raise BadMany(many)
    return (("", lying),) * many, store


def check_number(state, number):
    """Raises NoWorker for what is no number of a worker of the state."""
    if not is_integer(number, 0, len(state[0]) - 1):
        raise NoWorker(number)


def check_run(machine, state, number, item):
    """Raises NoWorker for what is no number of a worker, then NoItem for what is no item of the machine."""
    check_number(state, number)
    if not is_item_of(machine, item):
        raise NoItem(item)


def is_item_of(machine, value):
    """Whether the value is an item of the machine."""
    # The shop is asked first: ("a", True) equals ("a", 1) and is no item.
    return machine.shop.is_item(value) and value in machine.all_items


def is_thing_of(machine, value):
    """Whether the value is a thing of the machine."""
    return machine.shop.is_thing(value) and value in machine.things


def are_items_of(machine, value):
    """Whether the value is a tuple of items of the machine."""
    return isinstance(value, tuple) and all([is_item_of(machine, item) for item in value])


def outcomes_of(machine, order):
    """The outcomes of an order that is run on one worker of the machine from the start on."""
    if not is_row(order, 0, LONGEST_ORDER) or not are_items_of(machine, order):
        raise BadOrder(order)
    state = machine.start(1)
    found = []
    for item in order:
        outcome, state = machine.after(state, 0, item)
        found.append(outcome)
    return tuple(found)


def opened_in(state, number):
    """The group that is open on the worker, "" for none."""
    return state[0][number][0]


def with_row(state, number, row):
    """The state with another row for the worker with this number."""
    rows, store = state
    return rows[:number] + (row,) + rows[number + 1:], store

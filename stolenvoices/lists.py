"""NEEDLESS FILTERs, the LEAN form of a MACHINE, and MACHINEs in groups of ALIKE ones."""

from stolenvoices.boards import need_board
from stolenvoices.deciding import alike
from stolenvoices.errors import BadQuestion
from stolenvoices.machines import need_machine

MOST_MACHINES = 20


def without_filter(machine, number):
    """The MACHINE without the FILTER that has the number."""
    voices, criteria, returning = machine
    return (voices, criteria[:number] + criteria[number + 1:], returning)


def needless(machine, keys, *, pedal=False):
    """The ascending list of the numbers of the NEEDLESS FILTERs, each by itself."""
    need_machine(machine)
    need_board(keys, pedal)
    return [number for number in range(len(machine[1]) - 1)
            if alike(machine, without_filter(machine, number), keys, pedal=pedal)]


def lean(machine, keys, *, pedal=False):
    """The LEAN form of the MACHINE."""
    found = machine
    numbers = needless(machine, keys, pedal=pedal)
    while numbers:
        found = without_filter(found, numbers[0])
        numbers = needless(found, keys, pedal=pedal)
    return found


def need_machines(thing):
    """The thing itself; BadQuestion if it is no tuple of at most 20, then BadMachine of an item."""
    if not isinstance(thing, tuple) or len(thing) > MOST_MACHINES:
        raise BadQuestion("no tuple of at most 20 machines")
    for item in thing:
        need_machine(item)
    return thing


def groups(machines, keys, *, pedal=False):
    """The list of the lists of the numbers of ALIKE MACHINEs."""
    need_machines(machines)
    need_board(keys, pedal)
    found = []
    for number, machine in enumerate(machines):
        homes = [group for group in found if alike(machines[group[0]], machine, keys, pedal=pedal)]
        if homes:
            homes[0].append(number)
        else:
            found.append([number])
    return found

"""How much work a program and a contract can make (point 35)."""

from allmends.forms import product_of


def weight(program, contract):
    """The sum of E * N of point 35 over the procedures."""
    states = len(contract.states)
    total = 0
    for number in range(len(program.procedures)):
        nodes = len(program.points(number)) * len(program.sights(number)) * states * 2
        total += nodes * opening_bound(program, number, states)
    return total


def opening_bound(program, number, states):
    """The number E of a procedure: how many openings its calls can have."""
    if number == 0:
        return 1
    passed = len(program.variables) + len(program.procedures[number][1])
    return product_of(program.sizes(number)[:passed]) * states * 2

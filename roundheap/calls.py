"""How calls begin and end, and which block of an if is done."""

from roundheap.doing import assign, gain, memory_of, set_variable, touch, value_of
from roundheap.memory import add_frame, end_frame, record


def way_of(doer, statement, spot):
    """The index of the block of an if that is done."""
    number = value_of(doer, statement[1])
    if statement[0] == "ifnil":
        return 0 if number is None else 1
    other = value_of(doer, statement[2])
    doer.spot = spot
    touch(doer, number)
    touch(doer, other)
    return 0 if number == other else 1


def begin_call(doer, statement, spot):
    """Open a call: its parameters refer to the objects of the arguments."""
    _, _, name, arguments = statement
    task = doer.world.tasks[name]
    doer.spot = spot
    held = {variable: None for variable in task.names}
    for variable, argument in zip(task.names, arguments):
        held[variable] = value_of(doer, argument)
        gain(doer, held[variable])
    record(doer.tape, add_frame, name, held)


def end_call(doer, statement, spot):
    """Give the result of the innermost call, and let its variables go; the spot is the end of its body."""
    _, target, name, _ = statement
    task = doer.world.tasks[name]
    doer.spot = spot
    if target is not None:
        set_variable(doer, len(memory_of(doer).frames) - 2, target, value_of(doer, task.result))
    for variable in task.names:
        assign(doer, variable, None)
    record(doer.tape, end_frame, None, None)

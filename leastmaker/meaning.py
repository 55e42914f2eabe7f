"""What a program tells at inputs."""

from leastmaker.programs import knots, many_parts, taken


def value(program, inputs):
    """The number or the truth that the program tells at these inputs."""
    ready = []
    for knot in reversed(knots(program)):
        parts = taken(ready, many_parts(knot[0]))
        ready.append(knot_value(knot, parts, inputs))
    return ready[0]


def knot_value(knot, told, inputs):
    """What a knot tells, told what its parts tell."""
    match knot[0]:
        case "in":
            return inputs[knot[1]]
        case "num":
            return knot[1]
        case "yes":
            return True
        case "no":
            return False
        case "plus":
            return told[0] + knot[1]
        case "least":
            return min(told[0], told[1])
        case "most":
            return max(told[0], told[1])
        case "atmost":
            return told[0] <= told[1]
        case "not":
            return not told[0]
        case "both":
            return told[0] and told[1]
        case "either":
            return told[0] or told[1]
        case _:
            return told[1] if told[0] else told[2]

"""Lights: how much of one falls on a face in space, and colours so lit [21]."""

from onceshade.errors import NoLight
from onceshade.numbers import is_whole_tuple, products_added

BRIGHTEST = 4


def check_light(thing):
    """Refuse what is no light with NoLight."""
    if not is_whole_tuple(thing, 3) or thing == (0, 0, 0):
        raise NoLight("a light is a tuple of three whole numbers, not all 0")


def way(start, end):
    """Tell how one goes from a corner to another one."""
    return tuple([after - ahead for ahead, after in zip(start, end)])


def crosswise(one, other):
    """Multiply two ways crosswise: told is a way that stands straight on both."""
    return (
        one[1] * other[2] - one[2] * other[1],
        one[2] * other[0] - one[0] * other[2],
        one[0] * other[1] - one[1] * other[0],
    )


def step_of(a, b, c, light):
    """Tell the step, 0 to 4, by which a light falls on the face of three corners."""
    check_light(light)
    straight = crosswise(way(a, b), way(a, c))
    along = products_added(straight, light)
    if along <= 0:
        return 0
    # Squares are compared, as lengths need not be whole.
    whole = products_added(straight, straight) * products_added(light, light)
    reached = (BRIGHTEST * along) ** 2
    return max([step for step in range(BRIGHTEST + 1) if step * step * whole <= reached])


def lit(colour, step):
    """Tell a colour lit by a step."""
    return tuple([number * (step + 1) // (BRIGHTEST + 1) for number in colour])

"""Papers that no way leads from one standing to another."""

from unevenroads.kinds import kind_of
from unevenroads.standings import is_even
from unevenroads.values import is_from_to, is_integer, is_tuple_of
from unevenroads.walls import is_near, walls_of


def paper_holds(web, one, other, value):
    """Whether value is a paper of both."""
    if is_tuple_of(value, 2) and value[0] in ("even", "near") and is_from_to(value[1], 0, 1):
        mine, further = (one, other) if value[1] == 0 else (other, one)
        if value[0] == "even":
            return is_even(web, mine) and one != other
        return kind_of(web) == "parted" and is_near(web, mine) and not is_near(web, further)
    if is_tuple_of(value, 3) and value[0] == "walls":
        return _parts_by_number(web, one, other, value[1], value[2])
    return False


def _parts_by_number(web, one, other, number, further):
    """Whether one has number walls, other further walls, and these are unlike."""
    if kind_of(web) not in ("path", "ring") or not is_integer(number) or not is_integer(further):
        return False
    return number == len(walls_of(web, one)) and further == len(walls_of(web, other)) and number != further

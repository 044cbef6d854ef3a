"""Machines: what reads a text from the left and lets it by or not."""

from struckpieces.errors import BadMachine, NotAlike, NoText
from struckpieces.exploring import explored, first_way
from struckpieces.kinds import LETTERS, is_index, is_text
from struckpieces.shrinking import MOST_STANDINGS, least_rows


class Machine:
    """For each standing the next one for each sign, and whether it lets by; standing 0 is the first."""

    def __init__(self, signs, rows, lets):
        if not _is_signs(signs):
            raise BadMachine("signs")
        if not isinstance(rows, tuple) or not 1 <= len(rows) <= MOST_STANDINGS:
            raise BadMachine("rows")
        for standing, row in enumerate(rows):
            if not _is_row(row, len(signs), len(rows)):
                raise BadMachine(standing)
        if not isinstance(lets, tuple) or len(lets) != len(rows) or not all([isinstance(let, bool) for let in lets]):
            raise BadMachine("lets")
        self.signs = signs
        self.rows = rows
        self.lets = lets

    def __eq__(self, other):
        if not isinstance(other, Machine):
            return False
        return self.signs == other.signs and self.rows == other.rows and self.lets == other.lets


def _is_signs(thing):
    """Whether a thing is an ascending string of 1 to 8 letters, each once."""
    return is_text(LETTERS, thing) and len(thing) > 0 and thing == "".join(sorted(set(thing)))


def _is_row(thing, signs, standings):
    """Whether a thing is a tuple of a standing for each sign."""
    return isinstance(thing, tuple) and len(thing) == signs and all([is_index(standings, after) for after in thing])


def reached(machine, text):
    """The standing behind a text."""
    if not is_text(machine.signs, text):
        raise NoText()
    return run(machine, 0, text)


def run(machine, standing, text):
    """The standing behind a text of the machine's signs that is read from a standing on."""
    signs = {sign: at for at, sign in enumerate(machine.signs)}
    for sign in text:
        standing = machine.rows[standing][signs[sign]]
    return standing


def lets_by(machine, text):
    """Whether a machine lets a text by; False for what is no string of its signs."""
    return is_text(machine.signs, text) and machine.lets[run(machine, 0, text)]


def made_least(signs, rows, lets):
    """The least Machine for rows and lets all whose standings are come to; TooMany(300) for more standings."""
    shrunk, letting = least_rows(rows, lets, MOST_STANDINGS)
    return Machine(signs, shrunk, letting)


def least(machine):
    """The Machine of fewest standings that lets the same by."""
    return _least_of(machine, machine.lets)


def turned(machine):
    """The least Machine that lets by what the machine doesn't."""
    return _least_of(machine, [not let for let in machine.lets])


def _least_of(machine, lets):
    """The least Machine with a machine's rows and other lets."""
    found, rows = explored(0, lambda standing, sign: machine.rows[standing][sign], len(machine.signs))
    return made_least(machine.signs, rows, [lets[standing] for standing in found])


def either(machine, other):
    """The least Machine of what one of two machines or both let by."""
    return _joined(machine, other, lambda one, two: one or two)


def both(machine, other):
    """The least Machine of what both of two machines let by."""
    return _joined(machine, other, lambda one, two: one and two)


def _joined(machine, other, joining):
    """The least Machine of what joining tells of whether the one and the other machine let a text by."""
    _need_alike(machine, other)
    found, rows = explored((0, 0), side_by_side(machine, other), len(machine.signs))
    return made_least(machine.signs, rows, [joining(machine.lets[one], other.lets[two]) for one, two in found])


def side_by_side(machine, other):
    """The step of two machines that read the same: from a pair of standings to the next one."""
    return lambda pair, sign: (machine.rows[pair[0]][sign], other.rows[pair[1]][sign])


def _need_alike(machine, other):
    """Raises NotAlike for what are not two machines with the same signs."""
    if not isinstance(machine, Machine) or not isinstance(other, Machine) or machine.signs != other.signs:
        raise NotAlike()


def apart(machine, other):
    """The first text, shortest first, that just one of two machines lets by, or None."""
    _need_alike(machine, other)
    return _first_text(machine, other, lambda pair: machine.lets[pair[0]] != other.lets[pair[1]])


def is_below(machine, other):
    """Whether the other machine lets by all that the first one does."""
    _need_alike(machine, other)
    return _first_text(machine, other, lambda pair: machine.lets[pair[0]] and not other.lets[pair[1]]) is None


def _first_text(machine, other, is_wanted):
    """The first text, shortest first, behind which the pair of the machines' standings is wanted, or None."""
    way = first_way([(0, 0)], side_by_side(machine, other), machine.signs, is_wanted)
    if way is None:
        return None
    return way[1]

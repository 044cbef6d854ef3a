"""Of books that are not enough: a text on which a machine or a program errs, and what shows it."""

from struckpieces.books import letters
from struckpieces.errors import Enough, NoNumber, NoStriking, NotOwn, TooMany
from struckpieces.free import endless, is_endless
from struckpieces.kinds import is_integer, is_text, is_within
from struckpieces.logs import left_by
from struckpieces.machines import Machine, lets_by
from struckpieces.weights import is_fitting, least_weight, weight

MOST_RUNS = 300


def is_own(book, thing):
    """Whether a thing is a Machine that has the book's own letters as signs."""
    return isinstance(thing, Machine) and thing.signs == letters(book)


def need_own(book, machine):
    """Raises NotOwn for what is no Machine with the book's own letters."""
    if not is_own(book, machine):
        raise NotOwn()


def _powers(book):
    """For each letter that has a power that is a piece the number of the least one."""
    found = {}
    for number, piece in enumerate(book.pieces):
        letter = piece[0]
        if piece != letter * len(piece):
            continue
        if letter not in found or len(piece) < len(book.pieces[found[letter]]):
            found[letter] = number
    return found


def _back_of(book, text):
    """For each letter of a text, the last one first, as many of it as its least such power less one."""
    powers = _powers(book)
    return "".join([book.pieces[powers[letter]][1:] for letter in text[::-1]])


def family(book):
    """Two texts that are idle if each stands there as often, and never with too few or too many of the first."""
    pair = endless(book)
    if pair is None:
        raise Enough()
    powers = _powers(book)
    for letter in letters(book):
        if letter not in powers:
            return _weights_family(book, letter)
    return "backs", pair[1], _back_of(book, pair[1])


def _weights_family(book, letter):
    """The family of a letter that has no power that is a piece."""
    # The others have 1, so a piece that sets the bound has other letters, and its first one weighs something.
    _, weights = least_weight(book, letter)
    bounding = [piece for piece in book.pieces if letter in piece and weight(book, weights, piece) == (0, 1)]
    return "weights", bounding[0][0], bounding[0][1:], weights


def is_family(book, thing):
    """Whether a thing is a family of a book."""
    if not isinstance(thing, tuple) or not thing or not isinstance(thing[0], str):
        return False
    if thing[0] == "weights" and len(thing) == 4:
        return _is_weights_family(book, thing)
    return thing[0] == "backs" and len(thing) == 3 and _are_backs(book, thing[1], thing[2])


def _is_weights_family(book, thing):
    """Whether the two texts and the weights of a family are as they must be."""
    _, front, back, weights = thing
    own = letters(book)
    if not is_text(own, front) or not is_text(own, back) or front + back not in book.pieces:
        return False
    if not is_fitting(book, weights):
        return False
    return weight(book, weights, front + back)[0] == 0 and weight(book, weights, front)[0] != 0


def _are_backs(book, text, back):
    """Whether a text that is repeated stays free, its letters have powers that are pieces, and the back is its own."""
    if not is_endless(book, ("", text)):
        return False
    powers = _powers(book)
    if not all([letter in powers for letter in text]):
        return False
    return isinstance(back, str) and back == _back_of(book, text)


def refutal(book, machine):
    """A text on which a machine errs, and what shows it."""
    chosen = family(book)
    need_own(book, machine)
    signs = {sign: at for at, sign in enumerate(machine.signs)}
    return _refuting(
        book, chosen, 0, lambda standing, letter: machine.rows[standing][signs[letter]],
        lambda standing: machine.lets[standing], len(machine.rows),
    )


def refuted(book, start, step, lets, most):
    """A text on which a program errs that has at most so many standings, and what shows it."""
    chosen = family(book)
    if not is_within(1, MOST_RUNS, most):
        raise NoNumber()
    return _refuting(book, chosen, start, step, lets, most)


def _refuting(book, chosen, start, step, lets, most):
    """A text of a family on which a program errs, and what shows it."""
    front = chosen[1]
    back = chosen[2]
    few, many, standing = _alike(start, step, front, most)
    if chosen[0] == "backs":
        idle = few
        barred = _enough_fronts(book, front, back, few, many)
    elif weight(book, chosen[3], front)[0] < 0:
        idle, barred = few, many
    else:
        idle, barred = many, few
    # Behind as many fronts as are idle, or barred, the program stands alike: it tells the same of both texts.
    if not lets(_run(step, standing, back * idle)):
        return "idle", front * idle + back * idle, _striking(book, chosen, idle)
    text = front * barred + back * idle
    if chosen[0] == "backs":
        return "backs", text, (front, barred, back, idle)
    return "weights", text, chosen[3]


def _run(step, standing, text):
    """The standing of a program behind a text that it reads from a standing on."""
    for letter in text:
        standing = step(standing, letter)
    return standing


def _alike(start, step, front, most):
    """Two numbers of fronts, the lesser one first, behind which a program stands alike, and how it does."""
    standings = {start: 0}
    standing = _run(step, start, front)
    while standing not in standings:
        if len(standings) == most:
            raise TooMany(most)
        standings[standing] = len(standings)
        standing = _run(step, standing, front)
    return standings[standing], len(standings), standing


def _enough_fronts(book, front, back, few, many):
    """How many fronts are too many for few backs, the program standing alike behind few, many and so on by the same."""
    found = many
    while not _are_too_many(book, front, found, back, few):
        found += many - few
    return found


def _are_too_many(book, front, fronts, back, backs):
    """Whether fronts have more letters than the pieces that take a letter of the backs at least can take."""
    longest = max([len(piece) for piece in book.pieces])
    return len(front) * fronts > longest * len(back) * backs


def _striking(book, chosen, many):
    """The striking that leaves nothing of as many fronts and backs of a family."""
    front = chosen[1]
    if chosen[0] == "weights":
        number = book.pieces.index(front + chosen[2])
        return tuple([(len(front) * at, number) for at in reversed(range(many))])
    powers = _powers(book)
    return tuple([(place, powers[front[place % len(front)]]) for place in reversed(range(len(front) * many))])


def is_refutal(book, machine, thing):
    """Whether a thing is a text on which a machine errs, and what shows it."""
    need_own(book, machine)
    if not isinstance(thing, tuple) or len(thing) != 3:
        return False
    kind, text, shown = thing
    if not isinstance(kind, str) or not is_text(machine.signs, text):
        return False
    if kind == "idle":
        return not lets_by(machine, text) and _leaves_nothing(book, text, shown)
    if not lets_by(machine, text):
        return False
    if kind == "weights":
        return is_fitting(book, shown) and weight(book, shown, text)[0] < 0
    return kind == "backs" and _is_barred(book, text, shown)


def _leaves_nothing(book, text, thing):
    """Whether a thing is a striking that leaves nothing of a text."""
    try:
        left = left_by(book, text, thing)
    except NoStriking:
        return False
    return left == ""


def _is_barred(book, text, thing):
    """Whether a thing is (front, fronts, back, backs), a family's, of which a text is made, the fronts too many."""
    if not isinstance(thing, tuple) or len(thing) != 4:
        return False
    front, fronts, back, backs = thing
    if not is_integer(fronts) or not is_integer(backs) or fronts < 0 or backs < 0:
        return False
    if not _are_backs(book, front, back) or not _are_too_many(book, front, fronts, back, backs):
        return False
    # The length first: a text of so many fronts might not fit anywhere.
    if len(text) != len(front) * fronts + len(back) * backs:
        return False
    return text == front * fronts + back * backs

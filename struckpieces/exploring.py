"""Going through all that can be come to, step by step, what fewer signs lead to first."""


def explored(start, step, signs):
    """The list of all that is come to from a start, and for each the list of the numbers of the next ones.

    step gives the next one for each of so many signs, told by their numbers.
    """
    found = [start]
    numbers = {start: 0}
    rows = []
    while len(rows) < len(found):
        row = []
        for sign in range(signs):
            after = step(found[len(rows)], sign)
            if after not in numbers:
                numbers[after] = len(found)
                found.append(after)
            row.append(numbers[after])
        rows.append(row)
    return found, rows


def first_texts(start, steps):
    """For all that is come to from a start the first text, shortest first, that leads there.

    steps gives a list of pairs, a sign and what it leads to, the signs ascending.
    """
    texts = {start: ""}
    found = [start]
    at = 0
    while at < len(found):
        here = found[at]
        for sign, after in steps(here):
            if after not in texts:
                texts[after] = texts[here] + sign
                found.append(after)
        at += 1
    return texts


def first_way(starts, step, signs, is_wanted):
    """The pair (start, text) of the first text, shortest first, from one of the starts to what is wanted, or None."""
    found = list(starts)
    came = {start: None for start in found}
    at = 0
    while at < len(found):
        here = found[at]
        if is_wanted(here):
            return _traced(came, here)
        for number, sign in enumerate(signs):
            after = step(here, number)
            if after not in came:
                came[after] = (here, sign)
                found.append(after)
        at += 1
    return None


def _traced(came, here):
    """The pair of a start and the text that led from it."""
    text = []
    while came[here] is not None:
        here, sign = came[here]
        text.append(sign)
    return here, "".join(text[::-1])


def leading(rows, goals):
    """For each number of a row whether its steps, rows of numbers, lead to a goal, perhaps by none."""
    before = [[] for _ in rows]
    for number, row in enumerate(rows):
        for after in row:
            before[after].append(number)
    found = list(goals)
    leads = [False] * len(rows)
    for goal in goals:
        leads[goal] = True
    while found:
        goal = found.pop()
        for number in before[goal]:
            if not leads[number]:
                leads[number] = True
                found.append(number)
    return leads

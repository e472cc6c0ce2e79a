"""The plain reading: whether a core is so on a run."""

from timecourt.cores import Table


def read(world, run, core, sets):
    """Whether a core is so at the first place of a run."""
    return read_along(world, run, core, sets, 1)[0]


def read_along(world, run, core, sets, many):
    """Whether a core is so, at each of the first so many places of a run."""
    return read_rows(ground_of(world, core, sets), run, many)


def ground_of(world, core, sets):
    """The ground rows of a core, with the sets of its somes."""
    table = Table()
    number = table.number_of(core)
    return ground_rows(world, table, number, told_sets(table, sets))


def told_sets(table, sets):
    """The sets as a dict from the numbers of somes to lists of rooms."""
    return {table.number_of(some): rooms for some, rooms in sets}


def ground_rows(world, table, number, told):
    """A row for each inner part of a part, in their order, the part itself last.

    Yes, signs and somes are told as ("at", truths), a truth for each room; the others by their words and the
    places, in this list, of what stands in them.
    """
    places = {}
    rows = []
    for inner in table.inner_numbers(number):
        row = table.rows[inner]
        places[inner] = len(rows)
        if row[0] in ("yes", "sign", "some"):
            rows.append(("at", room_truths(world, row, told.get(inner))))
        else:
            rows.append((row[0],) + tuple([places[part] for part in row[1:]]))
    return rows


def room_truths(world, row, rooms):
    """For each room, whether a yes, a sign or a some with these rooms is so in it."""
    if row[0] == "yes":
        return tuple([True for room in range(world.many())])
    if row[0] == "sign":
        return tuple([row[1] in world.signs_of(room) for room in range(world.many())])
    return tuple([room in rooms for room in range(world.many())])


def read_rows(rows, run, many):
    """Whether the part of the last ground row is so, at each of the first so many places of a run.

    Each row gets a line: its truths at the first places, of which the last ones, as many as the ring has rooms,
    come again and again.
    """
    way, ring = run
    size = len(ring)
    lines = []
    for row in rows:
        if row[0] == "at":
            line = [row[1][room] for room in way + ring]
        else:
            deed = LINES[row[0]]
            line = deed([lines[place] for place in row[1:]], size)
        lines.append(trimmed(line, size))
    return stretched(lines[-1], many, size)[:many]


def trimmed(line, size):
    """The shortest line that tells the same."""
    end = len(line)
    # Looking back makes lines longer; without this deep cores would have very long ones.
    while end > size and line[end - 1] == line[end - 1 - size]:
        end -= 1
    return line[:end]


def stretched(line, length, size):
    """A line that tells the same, at least so long."""
    longer = list(line)
    while len(longer) < length:
        longer.append(longer[-size])
    return longer


def stretched_both(lines, size, more):
    """Two lines as pairs of truths, place by place, both as long as the longer one and some more."""
    length = max(len(lines[0]), len(lines[1])) + more
    return list(zip(stretched(lines[0], length, size), stretched(lines[1], length, size)))


def not_line(lines, size):
    """The line of a not."""
    return [not truth for truth in lines[0]]


def and_line(lines, size):
    """The line of an and."""
    return [one and other for one, other in stretched_both(lines, size, 0)]


def next_line(lines, size):
    """The line of a next."""
    return stretched(lines[0], len(lines[0]) + 1, size)[1:]


def until_line(lines, size):
    """The line of an until."""
    pairs = stretched_both(lines, size, 0)
    # One round of the ring tells how it goes on behind the last place.
    later = False
    for first, second in reversed(pairs[-size:]):
        later = second or (first and later)
    line = []
    for first, second in reversed(pairs):
        later = second or (first and later)
        line.append(later)
    return line[::-1]


def before_line(lines, size):
    """The line of a before."""
    return [False] + lines[0]


def since_line(lines, size):
    """The line of a since."""
    line = []
    held = False
    # What was held when the ring began is forgotten after one round, or never.
    for first, second in stretched_both(lines, size, size):
        held = second or (first and held)
        line.append(held)
    return line


LINES = {
    "not": not_line, "and": and_line, "next": next_line, "until": until_line, "before": before_line,
    "since": since_line,
}

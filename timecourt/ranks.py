"""The small checker: whether a loop is full, and whether ranks close the begins of a net."""

from timecourt.plain import is_whole


def is_same(node, thing):
    """Whether a thing, of any kind, is this very node: Python takes a truth for a number, which it isn't here."""
    if isinstance(node, tuple):
        if not isinstance(thing, tuple) or len(thing) != len(node):
            return False
        return all([is_same(one, other) for one, other in zip(node, thing)])
    return isinstance(thing, bool) == isinstance(node, bool) and node == thing


def is_full_loop(net, marks, begins, thing):
    """Whether a thing, of any kind, is a full loop."""
    if not isinstance(thing, tuple) or len(thing) != 2:
        return False
    way, ring = thing
    if not isinstance(way, list) or not isinstance(ring, list) or len(ring) == 0:
        return False
    # The ring's first node comes again, for the step that closes the ring.
    row = way + ring + ring[:1]
    nodes = nodes_along(net, begins, row)
    return len(nodes) == len(row) and is_full(marks, nodes[len(way):])


def nodes_along(net, begins, row):
    """The net's own nodes for the things of a row, as far as it goes from a begin by the net's lists."""
    nodes = []
    choices = begins
    # Each thing is looked for among the nodes that may come there: no dict can be asked for a thing of any kind.
    for thing in row:
        same = [node for node in choices if is_same(node, thing)]
        if not same:
            return nodes
        nodes.append(same[0])
        choices = net[same[0]]
    return nodes


def is_full(marks, nodes):
    """Whether each mark is True at one of the nodes."""
    for number in range(len(marks[nodes[0]])):
        if not any([marks[node][number] for node in nodes]):
            return False
    return True


def closes(net, marks, begins, ranks, lacks):
    """Whether two things, of any kind, are ranks and lacks that close the begins of a net."""
    if not are_ranks(net, ranks) or not are_lacks(ranks, lacks):
        return False
    if not all([begin in ranks for begin in begins]):
        return False
    return all([is_closed(net, marks, ranks, lacks, node) for node in ranks])


def are_ranks(net, thing):
    """Whether a thing is a dict from some nodes of a net to whole numbers from 0 on."""
    if not isinstance(thing, dict):
        return False
    own = {node: node for node in net}
    if not all([key in own and is_same(own[key], key) for key in thing]):
        return False
    return all([is_whole(rank) and rank >= 0 for rank in thing.values()])


def are_lacks(ranks, thing):
    """Whether a thing is a dict from just the numbers that are ranks."""
    if not isinstance(thing, dict) or not all([is_whole(rank) for rank in thing]):
        return False
    return set(thing) == set(list(ranks.values()))


def is_closed(net, marks, ranks, lacks, node):
    """Whether all that is asked at a node with a rank holds there."""
    rank = ranks[node]
    lack = lacks[rank]
    if lack is not None and not lacks_mark(marks[node], lack):
        return False
    for further in net[node]:
        if further not in ranks or ranks[further] > rank:
            return False
        if lack is None and ranks[further] == rank:
            return False
    return True


def lacks_mark(marks, number):
    """Whether a thing is the number of one of the marks, and that one is False."""
    return is_whole(number) and 0 <= number < len(marks) and not marks[number]

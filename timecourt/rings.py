"""Full loops where there are some, and ranks where there are none."""

from timecourt.ranks import is_full


def loop_or_ranks(net, marks, begins):
    """A full loop from a begin, or ranks and lacks that close the begins."""
    knots = Knots(net, marks, begins)
    loop = knots.loop_from(begins)
    if loop is not None:
        return ("loop", loop[0], loop[1])
    ranks, lacks = knots.ranks_from(begins)
    return ("ranks", ranks, lacks)


def reached(net, begins):
    """The nodes to which begins lead, themselves too, each behind those that were first met through it."""
    found = []
    steps = {}
    for begin in begins:
        if begin not in steps:
            steps[begin] = 0
            # A list of where one is, as nets may be deeper than calls may go.
            trail = [begin]
            while trail:
                node = trail[-1]
                step = steps[node]
                if step == len(net[node]):
                    found.append(trail.pop())
                else:
                    steps[node] = step + 1
                    further = net[node][step]
                    if further not in steps:
                        steps[further] = 0
                        trail.append(further)
    return found


def turned(net, nodes):
    """For each of the nodes those of them that lead to it."""
    back = {node: [] for node in nodes}
    for node in nodes:
        for further in net[node]:
            back[further].append(node)
    return back


def knots_of(net, begins):
    """The knots of the nodes to which begins lead: lists of nodes that lead to one another.

    No knot leads to one behind it in the list.
    """
    nodes = reached(net, begins)
    back = turned(net, nodes)
    knots = []
    seen = {}
    for node in reversed(nodes):
        if node not in seen:
            seen[node] = True
            knot = [node]
            place = 0
            while place < len(knot):
                at = knot[place]
                for ahead in back[at]:
                    if ahead not in seen:
                        seen[ahead] = True
                        knot.append(ahead)
                place += 1
            knots.append(knot)
    return knots[::-1]


def path_to(net, begins, goals):
    """A shortest list of nodes from a begin to a goal, or None."""
    # A list with the node ahead of each one, or with none, as any thing may be a node.
    ahead = {}
    row = []
    for begin in begins:
        if begin not in ahead:
            ahead[begin] = []
            row.append(begin)
    place = 0
    while place < len(row):
        node = row[place]
        if node in goals:
            return traced(ahead, node)
        for further in net[node]:
            if further not in ahead:
                ahead[further] = [node]
                row.append(further)
        place += 1
    return None


def traced(ahead, node):
    """The list of nodes that came to a node."""
    path = [node]
    while ahead[path[-1]]:
        path.append(ahead[path[-1]][0])
    return path[::-1]


class Knots:
    """The knots of a net, from some begins on: each is full, or has a lack."""

    def __init__(self, net, marks, begins):
        self.net = net
        self.marks = marks
        self.knots = knots_of(net, begins)
        self.ranks = {node: rank for rank, knot in enumerate(self.knots) for node in knot}
        self.goals = {node: True for rank, knot in enumerate(self.knots) if self.is_ring(rank) for node in knot}

    def is_linked(self, rank):
        """Whether one gets from a node of a knot to one of it at all."""
        return any([self.ranks[further] == rank for node in self.knots[rank] for further in self.net[node]])

    def is_ring(self, rank):
        """Whether a full ring goes through a knot."""
        return self.is_linked(rank) and is_full(self.marks, self.knots[rank])

    def lack_of(self, rank):
        """What is lacking in a knot that is not full: the number of a mark, or None where it has no ring at all."""
        if not self.is_linked(rank):
            return None
        knot = self.knots[rank]
        lacking = 0
        while any([self.marks[node][lacking] for node in knot]):
            lacking += 1
        return lacking

    def loop_from(self, begins):
        """A full loop from one of the begins, or None."""
        path = path_to(self.net, begins, self.goals)
        if path is None:
            return None
        return (path[:-1], self.ring_from(path[-1]))

    def ring_from(self, node):
        """A ring from a node round its knot, with each mark."""
        rank = self.ranks[node]
        knot = self.knots[rank]
        inside = {one: [further for further in self.net[one] if self.ranks[further] == rank] for one in knot}
        ring = [node]
        for number in range(len(self.marks[node])):
            if not any([self.marks[one][number] for one in ring]):
                goals = {one: True for one in knot if self.marks[one][number]}
                ring.extend(path_to(inside, inside[ring[-1]], goals))
        return ring + path_to(inside, inside[ring[-1]], {node: True})[:-1]

    def ranks_from(self, begins):
        """Ranks and lacks that close begins from which there is no full loop."""
        ranks = {node: self.ranks[node] for node in reached(self.net, begins)}
        lacks = {rank: self.lack_of(rank) for rank in sorted(set(list(ranks.values())))}
        return (ranks, lacks)

"""Flows: the most that can go along the edges of a graph, the cheapest cut, and the paths of a flow."""


class Net:
    """A graph with a source; each edge goes from one point to another and has a cost.

    `ends` and `room` are told for each edge twice: 2 * k along it, 2 * k + 1 back along it.
    """

    def __init__(self, many, source, edges):
        self.source = source
        self.costs = [cost for _, _, cost in edges]
        self.ends = []
        self.room = []
        self.ways = [[] for _ in range(many)]
        for begin, end, cost in edges:
            self.ways[begin].append(len(self.ends))
            self.ways[end].append(len(self.ends) + 1)
            self.ends.extend([end, begin])
            self.room.extend([cost, 0])


def levels_from(net, goals):
    """How far each point is from the source along edges with room, up to the nearest goal; None if none is reached."""
    levels = [-1 for _ in net.ways]
    levels[net.source] = 0
    front = [net.source]
    while front:
        further = []
        for point in front:
            for way in net.ways[point]:
                end = net.ends[way]
                if net.room[way] > 0 and levels[end] == -1:
                    levels[end] = levels[point] + 1
                    further.append(end)
        if any([point in goals for point in further]):
            return levels
        front = further
    return None


def push(net, path):
    """Let as much as possible go along a path."""
    share = min([net.room[way] for way in path])
    for way in path:
        net.room[way] -= share
        net.room[way ^ 1] += share


def fill_level(net, goals, levels):
    """Let as much as possible go along paths in which each point is one level further than the one before."""
    turns = [0 for _ in net.ways]
    path = []
    while True:
        point = net.ends[path[-1]] if path else net.source
        if point in goals and path:
            push(net, path)
            path = path[:full_edge(net, path)]
            continue
        while turns[point] < len(net.ways[point]):
            way = net.ways[point][turns[point]]
            if net.room[way] > 0 and levels[net.ends[way]] == levels[point] + 1:
                break
            turns[point] += 1
        if turns[point] < len(net.ways[point]):
            path.append(net.ways[point][turns[point]])
        elif path:
            turns[net.ends[path.pop() ^ 1]] += 1
        else:
            return


def full_edge(net, path):
    """The index of the first edge of a path that has no room left."""
    index = 0
    while net.room[path[index]] > 0:
        index += 1
    return index


def fill(net, goals):
    """Let as much as possible go from the source to the goals, a dict."""
    levels = levels_from(net, goals)
    while levels is not None:
        fill_level(net, goals, levels)
        levels = levels_from(net, goals)


def near_goals(net, goals):
    """A dict with the points from which edges with room lead to a goal."""
    near = {point: True for point in goals}
    front = list(goals)
    while front:
        point = front.pop()
        for way in net.ways[point]:
            begin = net.ends[way]
            if net.room[way ^ 1] > 0 and begin not in near:
                near[begin] = True
                front.append(begin)
    return near


def cut_edges(net, goals):
    """The edges of the cheapest cut nearest to the goals, for a net that is filled."""
    near = near_goals(net, goals)
    edges = []
    for edge in range(len(net.costs)):
        if net.ends[2 * edge] in near and net.ends[2 * edge + 1] not in near:
            edges.append(edge)
    return edges


def next_edge(net, flow, turns, point):
    """An edge from a point along which something goes."""
    ways = net.ways[point]
    while ways[turns[point]] % 2 == 1 or flow[ways[turns[point]] // 2] == 0:
        turns[point] += 1
    return ways[turns[point]] // 2


def flow_paths(net, goals):
    """The flow of a net that is filled, as a list of (edges of a path, share)."""
    flow = [cost - net.room[2 * edge] for edge, cost in enumerate(net.costs)]
    turns = [0 for _ in net.ways]
    left = sum([flow[way // 2] for way in net.ways[net.source] if way % 2 == 0])
    paths = []
    while left > 0:
        path = []
        passed = {net.source: 0}
        point = net.source
        while point not in goals:
            edge = next_edge(net, flow, turns, point)
            path.append(edge)
            point = net.ends[2 * edge]
            if point in passed:
                # What goes round a circle is left out.
                circle = path[passed[point]:]
                path = path[:passed[point]]
                take(flow, circle)
                passed = {net.source: 0}
                for index, before in enumerate(path):
                    passed[net.ends[2 * before]] = index + 1
            passed[point] = len(path)
        share = take(flow, path)
        left -= share
        paths.append((path, share))
    return paths


def take(flow, path):
    """Take as much as possible out of a flow along some edges; how much that is."""
    share = min([flow[edge] for edge in path])
    for edge in path:
        flow[edge] -= share
    return share

"""Largest flows from a source to a sink, and what is still reached when they are there."""

SOURCE = 0
SINK = 1
# Of nets made of webs the knots of the places stand behind the source and the sink.
FIRST = 2


class Net:
    # Arcs are tuples (tail, head, room) between knots from 0 on. Arc k stands twice: as way 2 * k with the room
    # that is left, and turned about as way 2 * k + 1 with what flows, which may be given back.
    def __init__(self, many, arcs):
        self.ways_from = [[] for knot in range(many)]
        self.heads = []
        self.rooms = []
        for tail, head, room in arcs:
            self.put_way(tail, head, room)
            self.put_way(head, tail, 0)

    def put_way(self, tail, head, room):
        self.ways_from[tail].append(len(self.heads))
        self.heads.append(head)
        self.rooms.append(room)

    def fill(self, source, sink):
        flowing = 0
        trail = self.shortest(source, sink)
        while trail:
            flowing += self.push(trail)
            trail = self.shortest(source, sink)
        return flowing

    # Always a shortest trail: so their number hangs on the arcs alone, however great the rooms are.
    def shortest(self, source, sink):
        came_by = self.spread(source)
        trail = []
        knot = sink
        while came_by.get(knot) is not None:
            trail.append(came_by[knot])
            knot = self.heads[came_by[knot] ^ 1]
        return trail

    def spread(self, source):
        came_by = {source: None}
        line = [source]
        done = 0
        while done < len(line):
            knot = line[done]
            for way in self.ways_from[knot]:
                head = self.heads[way]
                if self.rooms[way] > 0 and head not in came_by:
                    came_by[head] = way
                    line.append(head)
            done += 1
        return came_by

    def push(self, trail):
        amount = min([self.rooms[way] for way in trail])
        for way in trail:
            self.rooms[way] -= amount
            self.rooms[way ^ 1] += amount
        return amount

    def flows(self):
        return self.rooms[1::2]

    # Of a filled net these knots are the source's side of the least cut that is nearest to the source.
    def reached_from(self, source):
        return sorted(self.spread(source))

    # Of a filled net all other knots are the source's side of the least cut that is nearest to the sink.
    def reaching(self, sink):
        met = {sink: True}
        todo = [sink]
        while todo:
            knot = todo.pop()
            for way in self.ways_from[knot]:
                tail = self.heads[way]
                if self.rooms[way ^ 1] > 0 and tail not in met:
                    met[tail] = True
                    todo.append(tail)
        return sorted(met)

"""Routing: wires from tile to tile, so that each bit reaches all that read it."""

from heapq import heappop, heappush

from chipstack.errors import PlaceError
from chipstack.placing import STEPS, check_layout, nets_of

MOST_TRACKS = 24
# What a step costs where no wire leaves yet, and how much more for each one that does: wires shun crowded walls.
STEP_COST = 8
CROWD_COST = 2


class Routes:
    """How many tracks there are, and the wires of each net: (x, y, wall, track), the tile that it leaves first.

    sources tells of each wire what it carries on: ("tile",) for the tile's own cell, or ("wire", wall, track), the
    wall by which the wire that it carries on comes in.
    """

    def __init__(self):
        self.tracks = 1
        self.wires = {}
        self.sources = {}

    def shown(self):
        """Return (tracks, wires with the net's source, ascending)."""
        return (self.tracks, tuple((wire, self.wires[wire]) for wire in sorted(self.wires)))

    def length(self):
        """Return how many wires there are."""
        return len(self.wires)


class Heap:
    """Rows, of which the least is taken first: each is at most the two that stand behind it at twice its place."""

    def __init__(self):
        self.rows = []

    def put(self, row):
        """Add a row."""
        heappush(self.rows, row)

    def take(self):
        """Take the least row and return it."""
        return heappop(self.rows)


class Router:
    """A layout, the routes so far, and of the net at hand the way in by which each tile has its bit."""

    def __init__(self, layout):
        self.layout = layout
        self.routes = Routes()
        self.reached = {}
        # How many wires leave each tile by each wall.
        self.crowds = {}

    def add_wire(self, source, tile, wall):
        """Add a wire that leaves a tile by a wall on the first free track; what it leads to has the bit then."""
        x, y = tile
        track = self.crowds.get((x, y, wall), 0)
        if track >= MOST_TRACKS:
            raise PlaceError(f"too many wires leave ({x}, {y}) by wall {wall}")
        wire = (x, y, wall, track)
        self.routes.wires[wire] = source
        self.routes.sources[wire] = self.reached.get(tile, ("tile",))
        self.routes.tracks = max(self.routes.tracks, track + 1)
        self.crowds[(x, y, wall)] = track + 1
        self.reached[beside(tile, wall)] = ("wire", facing(wall), track)

    def is_inside(self, tile):
        """Return True for a tile of the square."""
        return 0 <= tile[0] < self.layout.side and 0 <= tile[1] < self.layout.side

    def lay_net(self, source, sinks):
        """Lay the wires of a net: to what stands near its source first."""
        start = self.layout.spot(source)
        self.reached = {start: ("tile",)}
        if source[0] == "in":
            wall = self.layout.pads[source][0]
            # What comes in comes on track 0, by the wall that its pad stands at.
            self.reached = {beside(start, facing(wall)): ("wire", wall, 0)}
        for _, sink in sorted([(far(start, self.layout.spot(sink)), sink) for sink in sinks]):
            self.lay_to(source, sink)

    def lay_to(self, source, sink):
        """Lay wires of a net to a cell, or to a pad of what goes out."""
        spot = self.layout.spot(sink)
        if sink[0] == "cell":
            self.reach(source, spot)
            return
        wall = self.layout.pads[sink][0]
        tile = beside(spot, facing(wall))
        self.reach(source, tile)
        self.add_wire(source, tile, wall)

    def reach(self, source, tile):
        """Lay wires to a tile, from where the bit is on the cheapest way."""
        if tile not in self.reached:
            for before, wall in self.way_to(tile):
                self.add_wire(source, before, wall)

    def way_to(self, target):
        """Return the cheapest way to a tile as (tile, wall by which it is left) rows; raise PlaceError for none."""
        costs = {tile: 0 for tile in self.reached if self.is_inside(tile)}
        came = {}
        heap = Heap()
        for tile in costs:
            heap.put((STEP_COST * far(tile, target), 0, tile))
        while heap.rows:
            _, cost, tile = heap.take()
            if tile == target:
                return way_back(came, target)
            if cost == costs[tile]:
                self.look_around(tile, target, costs, came, heap)
        raise PlaceError(f"no way leads to {target}")

    def look_around(self, tile, target, costs, came, heap):
        """Put the tiles around one into a heap, where the way over it is the cheapest so far."""
        for wall in range(len(STEPS)):
            other = beside(tile, wall)
            crowd = self.crowds.get((tile[0], tile[1], wall), 0)
            if not self.is_inside(other) or crowd >= MOST_TRACKS:
                continue
            cost = costs[tile] + STEP_COST + CROWD_COST * crowd
            if other not in costs or cost < costs[other]:
                costs[other] = cost
                came[other] = (tile, wall)
                heap.put((cost + STEP_COST * far(other, target), cost, other))


def way_back(came, target):
    """Return a way from its beginning on, by where each of its tiles was come to from."""
    found = []
    tile = target
    while tile in came:
        found.append(came[tile])
        tile = came[tile][0]
    found.reverse()
    return found


def beside(tile, wall):
    """Return the tile, or the spot outside, behind a wall of a tile."""
    across, down = STEPS[wall]
    return (tile[0] + across, tile[1] + down)


def facing(wall):
    """Return the wall by which a wire comes in that leaves a tile by another one."""
    return (wall + 2) % 4


def far(one, other):
    """Return how many steps two spots are apart."""
    return abs(one[0] - other[0]) + abs(one[1] - other[1])


def route_cells(cells, layout):
    """Return (routes, a table of (source, a cell's number) to the way in at its tile) of all nets; raise PlaceError.

    Nets are laid in the order of how many read them, the most first, then of their sources.
    """
    check_layout(cells, layout)
    nets = nets_of(cells)
    router = Router(layout)
    ways = {}
    for _, source in sorted([(-len(nets[source]), source) for source in nets]):
        router.lay_net(source, nets[source])
        for row in nets[source]:
            if row[0] == "cell":
                ways[(source, row[1])] = router.reached[layout.tiles[row[1]]]
    return (router.routes, ways)

"""Things put in places that have room for them, as many as can be, or at the least cost."""


class Flow:
    """How many of each thing are in each place, and how many more are wanted and have room."""

    def __init__(self, wants, rooms):
        self.wants = {thing: wants[thing] for thing in wants}
        self.rooms = {place: rooms[place] for place in rooms}
        self.held = {place: {} for place in rooms}
        self.stuck = []

    def left(self):
        """Return how many things are in no place."""
        return sum(self.wants.values())


def put_all(flow, ways):
    """Put as many things as can be in places, where ways has for each thing its places.

    The first thing of which some are left is stuck, with all others that compete with it for full places.
    """
    for thing in ways:
        stuck = []
        # Who finds no room now finds none later, so each thing has one turn.
        while flow.wants[thing] > 0 and len(stuck) == 0:
            stuck = put_some(flow, thing, ways)
        if len(flow.stuck) == 0:
            flow.stuck = stuck


def put_some(flow, thing, ways):
    """Put some of a thing in a place and return []; if there is no room, return all things that compete with it."""
    goers = {}
    leavers = {}
    place = place_with_room(flow, thing, ways, goers, leavers)
    if place is None:
        return list(leavers)
    shift(flow, moves_to(place, goers, leavers))
    return []


def place_with_room(flow, thing, ways, goers, leavers):
    """Return a place with room for a thing, in which things from full places may make room, or None.

    For each place that was looked at, goers gets the thing that would go there; for each thing that would go, leavers
    gets the place that it would leave, None for the thing that comes from outside.
    """
    leavers[thing] = None
    wave = [thing]
    while len(wave) > 0:
        further = []
        for one in wave:
            for place in [spot for spot in ways[one] if spot not in goers]:
                goers[place] = one
                if flow.rooms[place] > 0:
                    return place
                movers = [mover for mover in flow.held[place] if mover not in leavers]
                for mover in movers:
                    leavers[mover] = place
                further.extend(movers)
        wave = further
    return None


def moves_to(place, goers, leavers):
    """Return the moves that end in a place, the last one first: each a thing, the place it leaves, and its new one."""
    moves = []
    while place is not None:
        thing = goers[place]
        moves.append((thing, leavers[thing], place))
        place = leavers[thing]
    return moves


def shift(flow, moves):
    """Make moves, each for the greatest number for which all of them can be made."""
    last = moves[0][2]
    first = moves[-1][0]
    number = min([flow.rooms[last], flow.wants[first]] + [flow.held[old][thing] for thing, old, new in moves[:-1]])
    flow.rooms[last] = flow.rooms[last] - number
    flow.wants[first] = flow.wants[first] - number
    for thing, old, new in moves:
        flow.held[new][thing] = flow.held[new].get(thing, 0) + number
        if old is not None:
            flow.held[old][thing] = flow.held[old][thing] - number
            if flow.held[old][thing] == 0:
                del flow.held[old][thing]


def put_all_cheaply(flow, costs):
    """Put all things in places at the least cost, where costs has for each thing its places and what each one costs.

    There must be a way to put all. Return the prices of the places and those of the things: the price of a thing and
    the price of a place never come to more than the thing costs there, and to just as much where it is put.
    """
    charges = {thing: min([costs[thing][place] for place in costs[thing]]) for thing in costs}
    fees = {place: 0 for place in flow.rooms}
    for thing in costs:
        while flow.wants[thing] > 0:
            goers = {}
            leavers = {}
            place = place_with_room(flow, thing, exact_ways(costs, fees, charges), goers, leavers)
            if place is None:
                raise_prices(costs, fees, charges, goers, leavers)
            else:
                shift(flow, moves_to(place, goers, leavers))
    return fees, charges


def exact_ways(costs, fees, charges):
    """Return for each thing the places where it costs just as much as both prices."""
    return {
        thing: [place for place in costs[thing] if costs[thing][place] == fees[place] + charges[thing]]
        for thing in costs
    }


def raise_prices(costs, fees, charges, goers, leavers):
    """Raise the prices of things that found no room until one of them has a further place.

    The prices of the places that were looked at fall as much, so that nothing changes for the things in them.
    """
    gaps = [
        costs[thing][place] - fees[place] - charges[thing]
        for thing in leavers
        for place in costs[thing]
        if place not in goers
    ]
    step = min(gaps)
    for thing in leavers:
        charges[thing] = charges[thing] + step
    for place in goers:
        fees[place] = fees[place] - step

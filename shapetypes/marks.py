"""The places at which parameters of roles stand, and what these places demand of their marks."""

from shapetypes.declarations import MARKS, Role
from shapetypes.errors import InvalidWorld

# A set of demands is told as a number; the marks stand in the order of these numbers.
OUT = 1
IN = 2
BOTH = 3


class Place:
    """A place at which a parameter of a role stands.

    The parameter is told by the name of the role and its position. A place demands a set, and what the
    mark of another parameter demands, if it is an argument of another role.
    """

    def __init__(self, at, parameter, demand, other):
        self.at = at
        self.parameter = parameter
        self.demand = demand
        self.other = other


def spots_of(declaration):
    """The positions of the parameters of a declaration, by their names."""
    if not isinstance(declaration, Role):
        return {}
    return {parameter: spot for spot, (parameter, _) in enumerate(declaration.marks)}


def parameter_in(shape, spots):
    """The position of the parameter that is the only atom of a shape, or None."""
    if len(shape) != 1 or shape.atoms[0].arguments:
        return None
    return spots.get(shape.atoms[0].name)


def places_of(role):
    """All places of the parameters of a role, in the order of methods and ways."""
    spots = spots_of(role)
    told = []
    for method in role.methods:
        for number, way in enumerate(method.ways):
            at = (role.name, method.name, number)
            demand = IN if number == len(method.ways) - 1 else BOTH
            told.extend(places_of_parameters(role, way, spots, at, demand))
            told.extend(places_of_result(role, way, spots, (*at, "result")))
    return told


def places_of_parameters(role, way, spots, at, demand):
    """The places in the parameters of a way."""
    told = []
    for position, parameter in enumerate(way.parameters):
        for atom in parameter.atoms:
            if atom.name in spots:
                told.append(Place((*at, position), (role.name, spots[atom.name]), demand, None))
    return told


def places_of_result(role, way, spots, at):
    """The places in the result of a way."""
    told = []
    for atom in way.gives.atoms:
        if atom.name in spots:
            told.append(Place(at, (role.name, spots[atom.name]), OUT, None))
        for position, argument in enumerate(atom.arguments):
            spot = parameter_in(argument, spots)
            if spot is not None:
                told.append(Place(at, (role.name, spot), 0, (atom.name, position)))
    return told


def places_of_all(declarations):
    """All places of all roles, in the order of declarations, methods and ways."""
    told = []
    for declaration in declarations:
        if isinstance(declaration, Role):
            told.extend(places_of(declaration))
    return told


def demanded(place, demands):
    """What a place demands if the parameters have these demands."""
    if place.other is None:
        return place.demand
    return demands[place.other]


def check_marks(declarations):
    """Refuse the first place that demands more than the mark of its parameter."""
    demands = {}
    for declaration in declarations:
        for parameter, spot in spots_of(declaration).items():
            demands[(declaration.name, spot)] = MARKS.index(declaration.marks[spot][1])
    for place in places_of_all(declarations):
        if demanded(place, demands) & ~demands[place.parameter]:
            raise InvalidWorld("mark", place.at)


def least_of(declarations):
    """The tuples of the least marks of all declarations, by their names."""
    demands = {}
    for declaration in declarations:
        for spot in range(len(spots_of(declaration))):
            demands[(declaration.name, spot)] = 0
    places = places_of_all(declarations)
    grown = True
    while grown:
        grown = False
        for place in places:
            more = demanded(place, demands) | demands[place.parameter]
            if more != demands[place.parameter]:
                demands[place.parameter] = more
                grown = True
    told = {}
    for declaration in declarations:
        many = len(spots_of(declaration))
        told[declaration.name] = tuple([MARKS[demands[(declaration.name, spot)]] for spot in range(many)])
    return told

"""Orders of faces: sets of corners, polygons, simplices, cubes and crosses."""

from evenodds.bounds import check_size
from evenodds.errors import MOST_CORNERS, MOST_FACETS, InvalidFacet, InvalidName, TooMany
from evenodds.orders import Order
from evenodds.products import check_count
from evenodds.relations import order_from_relations

LEAST_POLYGON = 2
MOST_POLYGON = 19
MOST_SIMPLEX = 5
MOST_CUBE = 3
CORNER_DIGITS = ("0", "1", "2", "3", "4", "5", "6", "7", "8")


def is_ascending(corners, corner_count):
    """True if the corners are ascending and all of them are corners."""
    if not all([0 <= corner < corner_count for corner in corners]):
        return False
    return all([corner < after for corner, after in zip(corners, corners[1:])])


def check_facets(corner_count, facets):
    """Raise InvalidFacet for the first tuple that is no facet or an earlier one, or TooMany."""
    seen = set()
    for facet in facets:
        if not is_ascending(facet, corner_count) or facet in seen:
            raise InvalidFacet(facet)
        seen.add(facet)
    if len(facets) > MOST_FACETS:
        raise TooMany("facets", MOST_FACETS)


def all_faces(corner_count, facets):
    """The set of all corners and the intersections of facets, by number of corners, then as tuples are compared."""
    found = {tuple(range(corner_count)): True}
    for facet in facets:
        for face in list(found):
            found[tuple([corner for corner in face if corner in facet])] = True
    return sorted(sorted(list(found)), key=len)


def face_name(corners):
    """The name of the face with these corners."""
    return "f" + "-".join([str(corner) for corner in corners])


def is_face_below(face, other):
    """True if all corners of the face are corners of the other one, which is not the same face."""
    return face != other and all([corner in other for corner in face])


def faces_of(corner_count, facets):
    """The order of the set of all corners and of all intersections of the facets."""
    check_size(corner_count, 0, MOST_CORNERS)
    given = [tuple(facet) for facet in facets]
    check_facets(corner_count, given)
    faces = all_faces(corner_count, given)
    check_count(len(faces))
    pairs = [(face_name(face), face_name(other)) for face in faces for other in faces if is_face_below(face, other)]
    return order_from_relations([face_name(face) for face in faces], pairs)


def corners_of(name):
    """The corners of the face that has this name."""
    parts = [] if name == "f" else name[1:].split("-")
    if name[:1] != "f" or not all([part in CORNER_DIGITS for part in parts]):
        raise InvalidName(name)
    corners = tuple([int(part) for part in parts])
    if not is_ascending(corners, MOST_CORNERS):
        raise InvalidName(name)
    return corners


def polygon(size):
    """The order of the corners and edges of a polygon, with a least and a greatest thing."""
    check_size(size, LEAST_POLYGON, MOST_POLYGON)
    corners = [f"v{at}" for at in range(size)]
    edges = [f"e{at}" for at in range(size)]
    covers = [("none", corner) for corner in corners]
    for at, edge in enumerate(edges):
        covers.extend([(corners[at], edge), (corners[(at + 1) % size], edge), (edge, "whole")])
    return Order(["none", *corners, *edges, "whole"], covers)


def simplex(size):
    """The order of all sets of so many corners."""
    check_size(size, 0, MOST_SIMPLEX)
    corners = list(range(size))
    return faces_of(size, [[corner for corner in corners if corner != lacking] for lacking in corners])


def texts_of(characters, size):
    """All texts of so many of the characters; they ascend if the characters do."""
    found = [""]
    for _ in range(size):
        found = [start + character for start in found for character in characters]
    return found


def changes(texts, old, new):
    """Each text, at each place with one of the old characters, with the text that has a new one there."""
    return [
        (text, text[:at] + put + text[at + 1:])
        for text in texts
        for at, character in enumerate(text)
        if character in old
        for put in new
    ]


def cube(size):
    """The order of the faces of a cube, with a least thing."""
    check_size(size, 0, MOST_CUBE)
    texts = texts_of("01x", size)
    covers = [("none", "c" + text) for text in texts if "x" not in text]
    covers.extend([("c" + low, "c" + high) for low, high in changes(texts, "01", "x")])
    return Order(["none", *["c" + text for text in texts]], covers)


def cross(size):
    """The order of the faces of a cross, which is a cube turned, with a greatest thing."""
    check_size(size, 0, MOST_CUBE)
    texts = texts_of("mop", size)
    covers = [("k" + low, "k" + high) for low, high in changes(texts, "o", "mp")]
    covers.extend([("k" + text, "whole") for text in texts if "o" not in text])
    return Order([*["k" + text for text in texts], "whole"], covers)

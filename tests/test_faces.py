"""The module evenodds.faces: points [64] and [65]."""

import itertools
import unittest

from evenodds import errors
from evenodds.cdread import cd_sum
from evenodds.evencheck import is_even
from evenodds.faces import corners_of, cross, cube, faces_of, polygon, simplex
from evenodds.letterrules import prism_sum, pyramid_sum
from evenodds.products import turned
from evenodds.relations import is_matching, relations
from evenodds.words import WordSum, single
from samples import BIG, Asks, one

# The facets of a square, of a square with both its parts, and of an octahedron.
SQUARE = ([0, 1], [1, 2], [2, 3], [0, 3])
EIGHT = tuple(sorted(facet) for facet in itertools.product((0, 1), (2, 3), (4, 5)))
# Nine corners, eighteen edges and eleven sides of a solid, so 40 faces in all.
SOLID = ((0, 1, 2, 3), (0, 1, 4, 5), (1, 2, 5), (2, 5, 6), (2, 3, 6, 7), (0, 3, 7), (0, 4, 7), (4, 5, 8), (5, 6, 8),
         (6, 7, 8), (4, 7, 8))


class Faces(Asks, unittest.TestCase):
    """Point [64]: `faces_of`."""

    def test_no_facets(self):
        self.assert_same_order(faces_of(0, []), ("f",), ())
        self.assert_same_order(faces_of(1, ()), ("f0",), ())
        self.assert_same_order(faces_of(corner_count=9, facets=[]), ("f0-1-2-3-4-5-6-7-8",), ())

    def test_the_empty_facet_and_the_one_of_all_corners(self):
        self.assert_same_order(faces_of(0, [[]]), ("f",), ())
        self.assert_same_order(faces_of(2, [[]]), ("f", "f0-1"), (("f", "f0-1"),))
        self.assert_same_order(faces_of(2, [[0, 1]]), ("f0-1",), ())
        self.assert_same_order(faces_of(3, [[0, 1, 2], (), (1,)]), ("f", "f1", "f0-1-2"),
                               (("f", "f1"), ("f1", "f0-1-2")))

    def test_intersections(self):
        self.assert_same_order(faces_of(4, SQUARE), (
            "f", "f0", "f1", "f2", "f3", "f0-1", "f0-3", "f1-2", "f2-3", "f0-1-2-3"), (
            ("f", "f0"), ("f", "f1"), ("f", "f2"), ("f", "f3"), ("f0", "f0-1"), ("f0", "f0-3"), ("f1", "f0-1"),
            ("f1", "f1-2"), ("f2", "f1-2"), ("f2", "f2-3"), ("f3", "f0-3"), ("f3", "f2-3"), ("f0-1", "f0-1-2-3"),
            ("f0-3", "f0-1-2-3"), ("f1-2", "f0-1-2-3"), ("f2-3", "f0-1-2-3")))
        # The least face has corners where all facets share some.
        self.assert_same_order(faces_of(4, [[0, 1, 2], [0, 1, 3]]), ("f0-1", "f0-1-2", "f0-1-3", "f0-1-2-3"), (
            ("f0-1", "f0-1-2"), ("f0-1", "f0-1-3"), ("f0-1-2", "f0-1-2-3"), ("f0-1-3", "f0-1-2-3")))

    def test_the_rank_is_not_the_number_of_corners(self):
        found = faces_of(6, EIGHT)
        self.assertEqual((found.size, found.height, is_even(found)), (28, 4, True))
        self.assertEqual((found.rank("f0-2-4"), found.rank("f0-1-2-3-4-5")), (3, 4))
        self.assertEqual(faces_of(9, [[4], [0, 1, 2, 3, 4, 5, 6, 7]]).names, ("f4", "f0-1-2-3-4-5-6-7",
                                                                            "f0-1-2-3-4-5-6-7-8"))

    def test_the_given_sequence(self):
        # By number of corners and then by corners, which decides among faces of one rank.
        found = faces_of(6, [[0, 1, 2], [4, 5], [3]])
        self.assertEqual(found.names, ("f", "f3", "f4-5", "f0-1-2", "f0-1-2-3-4-5"))
        found = faces_of(3, [[0, 2], [1, 2], [0, 1]])
        self.assertEqual(found.names, ("f", "f0", "f1", "f2", "f0-1", "f0-2", "f1-2", "f0-1-2"))

    def test_facets_in_any_sequence_lists_and_tuples(self):
        for facets in itertools.permutations(SQUARE):
            self.assertEqual(faces_of(4, list(facets)), faces_of(4, SQUARE))
            self.assertEqual(faces_of(4, [tuple(facet) for facet in facets]), faces_of(4, SQUARE))

    def test_corner_counts(self):
        for count in (-1, -2, 10, 11, BIG, -BIG):
            for facets in ([], [[0]], [[1, 0]], [[0], [0]], [[k] for k in range(9)] * 2):
                self.assert_error(errors.InvalidSize, (count,), faces_of, count, facets)

    def test_wrong_facets(self):
        for count, facets, facet in (
            (3, [[1, 0]], (1, 0)), (3, [[0, 0]], (0, 0)), (3, [[3]], (3,)), (3, [[-1]], (-1,)), (0, [[0]], (0,)),
            (3, [[0, 1], [0], [0, 3], [2, 1]], (0, 3)), (9, [[0, 9]], (0, 9)), (3, [[0, 1], [0, 1]], (0, 1)),
            (3, [[0, 1], [2], (0, 1)], (0, 1)), (3, [(0, 1), [1], [0, 1], [1]], (0, 1)), (3, [[], [1], []], ()),
            (0, [[], ()], ()), (2, [[0, 1], (0, 1)], (0, 1)), (9, [[0, 1, 2, 4, 3]], (0, 1, 2, 4, 3)),
            (9, [[0, BIG]], (0, BIG)), (9, [[-BIG]], (-BIG,)), (9, [list(range(9)) * 100], tuple(range(9)) * 100),
        ):
            self.assert_error(errors.InvalidFacet, (facet,), faces_of, count, facets)
            self.assert_error(errors.InvalidFacet, (facet,), faces_of, count, tuple(map(tuple, facets)))

    def test_twelve_and_thirteen_facets(self):
        twelve = [[k] for k in range(9)] + [[], list(range(9)), [0, 1]]
        found = faces_of(9, [[k] for k in range(9)] + [[], list(range(9))])
        self.assertEqual((found.size, found.height), (11, 2))
        self.assert_error(errors.WrongRank, ("f2", "f0-1-2-3-4-5-6-7-8"), faces_of, 9, twelve)
        self.assertEqual(faces_of(9, SOLID + ((0, 1),)), faces_of(9, SOLID))
        self.assert_error(errors.TooMany, ("facets", 12), faces_of, 9, twelve + [[0, 2]])
        self.assert_error(errors.TooMany, ("facets", 12), faces_of, 9, [[]] + [[k] for k in range(9)] + [
            [0, 1], [0, 2], list(range(9))])
        # All facets are judged before they are counted.
        self.assert_error(errors.InvalidFacet, ((0, 1),), faces_of, 9, twelve + [[0, 2], [0, 1]])
        self.assert_error(errors.InvalidFacet, ((2, 0),), faces_of, 9, twelve + [[2, 0]])
        self.assert_error(errors.InvalidFacet, ((0,),), faces_of, 9, twelve * 80)

    def test_forty_and_forty_one_faces(self):
        found = faces_of(9, SOLID)
        self.assertEqual((found.size, found.height, is_even(found)), (40, 4, True))
        self.assertEqual([len(found.at_rank(rank)) for rank in range(5)], [1, 9, 18, 11, 1])
        self.assert_error(errors.TooMany, ("things", 40), faces_of, 9, SOLID + ((0, 5),))
        self.assert_error(errors.TooMany, ("things", 40), faces_of, 9, ((3, 8),) + SOLID)
        facets = [[corner for corner in range(6) if corner != lacking] for lacking in range(6)]
        self.assertEqual(faces_of(6, facets[:5]).size, 32)
        self.assert_error(errors.TooMany, ("things", 40), faces_of, 6, facets)

    def test_too_many_faces_go_before_a_wrong_rank(self):
        # The corner 8 is covered by a facet whose other part is an edge.
        self.assert_error(errors.WrongRank, ("f8", "f0-1-8"), faces_of, 9, [(0, 1, 8), *SOLID[:9]])
        self.assert_error(errors.TooMany, ("things", 40), faces_of, 9, [(0, 1, 8), *SOLID])

    def test_wrong_ranks(self):
        self.assert_error(errors.WrongRank, ("f2-3", "f0-1-2-3"), faces_of, 4, [[0, 1, 2], [2, 3], [3], [0, 2]])
        self.assert_error(errors.WrongRank, ("f0", "f0-1-2"), faces_of, 3, [[0], [1, 2], [1]])
        self.assert_error(errors.WrongRank, ("f3", "f0-1-2-3-4"), faces_of, 5, [[3], [0, 1], [1, 2]])
        self.assertEqual(faces_of(5, [[3], [0, 1, 2]]).height, 2)

    def test_relation(self):
        for count, facets in ((4, SQUARE), (6, EIGHT), (9, SOLID), (5, [[0, 1], [2, 3, 4]]), (4, [])):
            found = faces_of(count, facets)
            corners = {name: set(corners_of(name)) for name in found}
            self.assertEqual(set(relations(found)),
                             {(x, y) for x in corners for y in corners if corners[x] < corners[y]})


class Corners(Asks, unittest.TestCase):
    """Point [64]: `corners_of`."""

    def test_names_of_faces(self):
        for name, corners in (("f", ()), ("f0", (0,)), ("f8", (8,)), ("f0-2-5", (0, 2, 5)), ("f7-8", (7, 8)),
                              ("f0-1-2-3-4-5-6-7-8", (0, 1, 2, 3, 4, 5, 6, 7, 8))):
            self.assertEqual(corners_of(name), corners)
            self.assertEqual(corners_of(name=name), corners)

    def test_other_texts(self):
        for text in ("", "0", "g0", "ff", "f-", "f0-", "f-0", "f0--1", "f00", "f01", "f0-0", "f1-0", "f0-1-1", "f9",
                     "f0-9", "f10", "f0 ", " f0", "f 0", "f0\n", "f\n", "\nf", "f0-\n1", "f0,1", "F0", "f0-1-", "f+1",
                     "f0-2-1", "f0-1-2-3-4-5-6-7-8-9", "f-1", "fa", "f0-a", "f" + "0-" * 9000, "0-1", "f0-01"):
            self.assert_error(errors.InvalidName, (text,), corners_of, text)


class Polygons(Asks, unittest.TestCase):
    """Point [65]: `polygon`."""

    def test_two_and_three_corners(self):
        self.assert_same_order(polygon(2), ("none", "v0", "v1", "e0", "e1", "whole"), (
            ("none", "v0"), ("none", "v1"), ("v0", "e0"), ("v0", "e1"), ("v1", "e0"), ("v1", "e1"), ("e0", "whole"),
            ("e1", "whole")))
        self.assert_same_order(polygon(size=3), ("none", "v0", "v1", "v2", "e0", "e1", "e2", "whole"), (
            ("none", "v0"), ("none", "v1"), ("none", "v2"), ("v0", "e0"), ("v0", "e2"), ("v1", "e0"), ("v1", "e1"),
            ("v2", "e1"), ("v2", "e2"), ("e0", "whole"), ("e1", "whole"), ("e2", "whole")))

    def test_all_sizes(self):
        for size in range(2, 20):
            found = polygon(size)
            due = ["none"] + [f"v{k}" for k in range(size)] + [f"e{k}" for k in range(size)] + ["whole"]
            self.assertEqual(found.names, tuple(due))
            for k in range(size):
                self.assertEqual(set(found.lowers(f"e{k}")), {f"v{k}", f"v{(k + 1) % size}"})
                self.assertEqual((found.lowers(f"v{k}"), found.uppers(f"e{k}")), (("none",), ("whole",)))
            self.assertIs(is_even(found), True)
            self.assertEqual(cd_sum(found), WordSum("cd", 2, [("cc", 1), ("d", size - 2)]))

    def test_other_sizes(self):
        for size in (1, 0, -1, 20, 21, BIG, -BIG, 9 * BIG):
            self.assert_error(errors.InvalidSize, (size,), polygon, size)


class Simplices(Asks, unittest.TestCase):
    """Point [65]: `simplex`."""

    def test_small_sizes(self):
        self.assert_same_order(simplex(0), ("f",), ())
        self.assert_same_order(simplex(1), ("f", "f0"), (("f", "f0"),))
        self.assert_same_order(simplex(size=2), ("f", "f0", "f1", "f0-1"),
                               (("f", "f0"), ("f", "f1"), ("f0", "f0-1"), ("f1", "f0-1")))
        self.assertEqual(simplex(3).names, ("f", "f0", "f1", "f2", "f0-1", "f0-2", "f1-2", "f0-1-2"))

    def test_all_sizes(self):
        for size in range(6):
            found = simplex(size)
            self.assertEqual((found.size, found.height), (2 ** size, size))
            parts = [part for many in range(size + 1) for part in itertools.combinations(range(size), many)]
            self.assertEqual([corners_of(name) for name in found], parts)
            self.assertIs(is_even(found), True)
            for name in found:
                self.assertEqual(found.rank(name), len(corners_of(name)))

    def test_sums_are_those_of_pyramids(self):
        self.assertEqual(cd_sum(simplex(1)), single("cd", ""))
        for size in range(1, 5):
            self.assertEqual(cd_sum(simplex(size + 1)), pyramid_sum(cd_sum(simplex(size))))

    def test_other_sizes(self):
        for size in (-1, -2, 6, 7, BIG, -BIG):
            self.assert_error(errors.InvalidSize, (size,), simplex, size)


class Cubes(Asks, unittest.TestCase):
    """Point [65]: `cube` and `cross`."""

    def test_small_cubes(self):
        self.assert_same_order(cube(0), ("none", "c"), (("none", "c"),))
        self.assert_same_order(cube(size=1), ("none", "c0", "c1", "cx"),
                               (("none", "c0"), ("none", "c1"), ("c0", "cx"), ("c1", "cx")))
        self.assertEqual(cube(2).names, ("none", "c00", "c01", "c10", "c11", "c0x", "c1x", "cx0", "cx1", "cxx"))
        self.assertEqual(cube(2).uppers("c01"), ("c0x", "cx1"))

    def test_small_crosses(self):
        self.assert_same_order(cross(0), ("k", "whole"), (("k", "whole"),))
        self.assert_same_order(cross(size=1), ("ko", "km", "kp", "whole"),
                               (("ko", "km"), ("ko", "kp"), ("km", "whole"), ("kp", "whole")))
        self.assertEqual(cross(2).names, ("koo", "kmo", "kom", "kop", "kpo", "kmm", "kmp", "kpm", "kpp", "whole"))
        self.assertEqual(cross(2).uppers("kom"), ("kmm", "kpm"))

    def texts(self, characters, size):
        return ["".join(text) for text in itertools.product(characters, repeat=size)]

    def test_relations(self):
        for size in range(4):
            for function, first, wild, end, characters in ((cube, "c", 1, "none", "01x"),
                                                           (cross, "k", 0, "whole", "mop")):
                found = function(size)
                self.assertEqual((found.size, found.height), (3 ** size + 1, size + 1))
                self.assertIs(is_even(found), True)
                self.assertEqual((found.least if wild else found.greatest), end)
                for x, y in itertools.product(self.texts(characters, size), repeat=2):
                    due = all(v == w or (v, w)[wild] in "xo" for v, w in zip(x, y))
                    self.assertIs(found.is_at_most(first + x, first + y), due)

    def test_given_sequence(self):
        for size in range(4):
            cubed = ["none"] + ["c" + text for text in self.texts("01x", size)]
            crossed = ["k" + text for text in self.texts("mop", size)] + ["whole"]
            for found, names in ((cube(size), cubed), (cross(size), crossed)):
                due = sorted(names, key=lambda name: (found.rank(name), names.index(name)))
                self.assertEqual(list(found), due)

    def test_the_turned_cube_and_the_cross(self):
        for size in range(4):
            pairs = [("none", "whole")]
            for text in self.texts("01x", size):
                pairs.append(("c" + text, "k" + text.replace("0", "m").replace("1", "p").replace("x", "o")))
            self.assertIs(is_matching(turned(cube(size)), cross(size), pairs), True)
            self.assertIs(is_matching(turned(cube(size)), cross(size), pairs[::-1]), True)
            self.assertIs(is_matching(cube(size), cross(size), pairs), False)

    def test_sums_are_those_of_prisms(self):
        self.assertEqual(cd_sum(cube(0)), single("cd", ""))
        for size in range(3):
            self.assertEqual(cd_sum(cube(size + 1)), prism_sum(cd_sum(cube(size))))
        self.assert_sum(cd_sum(cube(3)), "cd", 3, (("ccc", 1), ("cd", 4), ("dc", 6)))
        self.assertEqual(cd_sum(cross(3)), cd_sum(cube(3)).reversed_words())

    def test_other_sizes(self):
        for size in (-1, -2, 4, 5, BIG, -BIG):
            self.assert_error(errors.InvalidSize, (size,), cube, size)
            self.assert_error(errors.InvalidSize, (size,), cross, size)

    def test_an_order_of_one_thing_is_neither(self):
        self.assertNotEqual(cube(0), one())
        self.assertEqual((cube(0).size, cross(0).size), (2, 2))


if __name__ == "__main__":
    unittest.main()

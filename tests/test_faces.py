import itertools
import unittest

from everygust.errors import Bare, TooGreat, Unbounded
from everygust.faces import edges, face_rows, face_with, faces
from everygust.lean import lean
from everygust.rows import product, slack, tight_rows
from everygust.weights import is_bare
from tests.helpers import corners_by_trying, cross, cube, pt, seeded, simplex, unchanged
from tests.test_corners import bounded_rooms, many_corners
from tests.test_weights import BARE, TRIANGLE, WEDGE


def rank(vectors):
    left = [list(v) for v in vectors]
    found = 0
    for column in range(len(left[0]) if left else 0):
        pivot = next((k for k in range(found, len(left)) if left[k][column]), None)
        if pivot is None:
            continue
        left[found], left[pivot] = left[pivot], left[found]
        for k in range(found + 1, len(left)):
            t = left[k][column] / left[found][column]
            left[k] = [x - t * y for x, y in zip(left[k], left[found])]
        found += 1
    return found


def flat_dimension(points):
    return rank([[x - y for x, y in zip(point, points[0])] for point in points[1:]])


def faces_by_trying(room):
    """All faces by their dimension: what rows of the room, taken together, are tight at."""
    trying = corners_by_trying(room)
    lots = [frozenset(k for k, p in enumerate(trying) if sum(x * y for x, y in zip(a, p)) == b) for a, b in room[1]]
    found = {frozenset(range(len(trying)))}
    while True:
        more = {one & lot for one in found for lot in lots} - found - {frozenset()}
        if not more:
            break
        found |= more
    top = flat_dimension(trying)
    return [sorted(tuple(sorted(one)) for one in found if flat_dimension([trying[k] for k in sorted(one)]) == d)
            for d in range(top + 1)]


class TestFaces(unittest.TestCase):
    def test_by_hand(self):
        self.assertEqual(unchanged(self, edges, TRIANGLE), [(0, 1), (0, 2), (1, 2)])
        self.assertEqual(faces(TRIANGLE), [[(0,), (1,), (2,)], [(0, 1), (0, 2), (1, 2)], [(0, 1, 2)]])
        self.assertEqual(faces((0, ())), [[(0,)]])
        self.assertEqual(edges((0, ())), [])
        self.assertEqual(edges(cube(2, 7, 7)), [])
        self.assertEqual(faces(cube(2, 7, 7)), [[(0,)]])
        self.assertEqual(edges(cube(1)), [(0, 1)])
        self.assertEqual(faces(cube(1)), [[(0,), (1,)], [(0, 1)]])
        self.assertEqual([len(level) for level in faces(cube(4))], [16, 32, 24, 8, 1])
        self.assertEqual([len(level) for level in faces(cross(4))], [8, 24, 32, 16, 1])
        self.assertEqual([len(level) for level in faces(simplex(4))], [5, 10, 10, 5, 1])
        self.assertEqual([len(level) for level in faces(many_corners(24))], [252, 504, 276, 24, 1])
        flat = (3, cube(3)[1] + (((1, 1, 1), 0), ((-1, -1, -1), 0)))
        self.assertEqual([len(level) for level in faces(flat)], [6, 6, 1])

    def test_by_trying(self):
        told = seeded(81)
        for room in bounded_rooms(told, 70):
            if is_bare(room):
                continue
            found = unchanged(self, faces, room)
            self.assertEqual(found, faces_by_trying(room))
            self.assertEqual(sum((-1) ** d * len(level) for d, level in enumerate(found)), 1)
            self.assertEqual(edges(room), found[1] if len(found) > 1 else [])
            self.assertTrue(all(len(edge) == 2 for edge in edges(room)))

    def test_face_rows_and_face_with(self):
        told = seeded(82)
        self.assertEqual(face_with(cube(2), (0, 3)), (0, 1, 2, 3))
        self.assertEqual(face_with(cube(2), (1,)), (1,))
        self.assertEqual(face_rows(cube(2), (0, 1)), [0])
        self.assertEqual(face_rows(cube(2), (0, 1, 2, 3)), [])
        self.assertEqual(face_rows(cube(2, 7, 7), (0,)), [0, 1, 2, 3])
        self.assertEqual([face_rows((0, ()), (0,)), face_with((0, ()), (0,))], [[], (0,)])
        for room in bounded_rooms(told, 40):
            if is_bare(room):
                continue
            trying = [pt(*point) for point in corners_by_trying(room)]
            all_faces = [face for level in faces(room) for face in level]
            form = lean(room)
            for face in all_faces:
                rows = [k for k, row in enumerate(form[1]) if all(slack(row, trying[j]) == (0, 1) for j in face)]
                self.assertEqual(unchanged(self, face_rows, room, face), rows)
                self.assertEqual(face_with(room, face), face)
            for _ in range(5):
                some = tuple(sorted(told.sample(range(len(trying)), told.randint(1, min(3, len(trying))))))
                around = [face for face in all_faces if set(some) <= set(face)]
                self.assertEqual(unchanged(self, face_with, room, some), min(around, key=len))
            self.assertTrue(all(isinstance(k, int) for k in tight_rows(form, trying[0])))

    def test_refused_in_order(self):
        calls = [faces, edges, lambda room: face_rows(room, (0,)), lambda room: face_with(room, (0,))]
        for call in calls:
            self.assertRaises(Bare, call, BARE)
            self.assertRaises(Unbounded, call, WEDGE)
            self.assertRaises(TooGreat, call, many_corners(27))

    def test_products(self):
        room = product(TRIANGLE, cube(2))
        counts = [len(level) for level in faces(room)]
        expected = [0] * 5
        for (i, x), (j, y) in itertools.product(enumerate((3, 3, 1)), enumerate((4, 4, 1))):
            expected[i + j] += x * y
        self.assertEqual(counts, expected)

"""The names and arguments of the interface, file by file, and what holds for the whole program."""

import importlib
import inspect
import unittest

from everygust.corners import corners
from everygust.cuts import cut, heart, volume, where
from everygust.faces import edges, face_with
from everygust.lean import equations, lean, sides
from everygust.sheets import read_point, room_text
from everygust.weights import added_up, greatest
from tests.helpers import cube, pt

FILES = {
    "fractions": "fraction_of(p, q) plus(one, other) minus(one, other) times(one, other) over(one, other) "
                 "total(fractions) is_less(one, other) lowest(fractions) highest(fractions) floor_of(t) ceiling_of(t)",
    "rows": "plain_row(row) row_of(members, bound) is_always(row) is_never(row) reach(row, point) slack(row, point) "
            "tight_rows(room, point) first_broken(room, point) is_in(room, point) joined(one, other) "
            "product(one, other) shifted(room, point) scaled(room, t) mirrored(room) placed(room, order) "
            "boxed(low, high) open_room(n) image_of(matrix, point, shift) next_of(plant, x, u, w)",
    "checks": "check_fraction(value) check_point(n, value) check_row(n, value) check_room(value) "
              "check_matrix(r, c, value) check_plant(value) check_sight(value) check_cost(value) check_lot(value) "
              "check_table(value) check_sheet(value) is_name(value)",
    "lexemes": "lexemes(text)",
    "sheets": "sheet_text(sheet) room_text(room) point_text(point) read_sheet(text) read_room(text) read_point(text) "
              "names(sheet) part_of(sheet, name) with_part(sheet, part) without_part(sheet, name)",
    "solving": "greatest_of(n, rows, form) mixed(parts, target) judge_mixed(parts, target, value)",
    "weights": "worth(form, point) added_up(room, weights) is_bare(room) bare_paper(room) judge_bare(room, value) "
               "greatest(room, form) judge_greatest(room, form, value) follows(room, row) following_paper(room, row) "
               "judge_following(room, row, value) is_bounded(room) bound_paper(room) judge_bound(room, value) "
               "is_inside(room, other) inside_paper(room, other) judge_inside(room, other, value) "
               "are_alike(room, other) plant_fault(plant)",
    "lean": "equations(room) made_0(base, row) sides(room) lean(room) is_lean(room) needed(room) thinned(room)",
    "corners": "corners(room) is_corner(room, point) dimension(room) is_inner(room, point) centre(room) box(room) "
               "top(room, form)",
    "faces": "faces(room) edges(room) face_rows(room, face) face_with(room, numbers)",
    "cuts": "cut(room) volume(room) heart(room) where(room, point) mean_of(room, point) "
            "judge_mean(room, point, value)",
    "hulls": "hull(n, points) hull_corners(n, points) hull_paper(n, points) judge_hull(n, points, room, value) "
             "within(n, points, point) judge_within(n, points, point, value)",
    "shadows": "shadow(room, shown) above(room, shown, point) judge_above(room, shown, point, value) "
               "shadow_paper(room, shown) judge_shadow(room, shown, value)",
    "images": "section(room, place, fraction) image(matrix, shift, room) before(n, matrix, shift, room) "
              "added(room, other) shrunk(room, other) rest_paper(room, other) judge_rest(room, other, value)",
    "steps": "come_by(plant, room, u) come(plant, room) greatest_gust(plant, form) landing(plant, room) "
             "late_landing(plant, room) back_by(plant, room, u) back(plant, room) back_mixed(plant, room, mixed) "
             "late_back(plant, room) leads(plant, x, u, room) leads_out(plant, x, u, room)",
    "levels": "levels(plant, walls, goal, many) levels_by(course, walls, goal) levels_with(rooms, x) "
              "last_chance(plant, walls, goal, many, x) come_to(plant, room, many)",
    "books": "row_paper(plant, walls, below, row) row_fault(plant, walls, below, row, value) "
             "level_book(plant, walls, goal, many) judge_book(plant, walls, goal, many, value)",
    "wishes": "good_wishes(plant, room, x) a_wish(plant, room, x) bar(plant, room, x) "
              "judge_bar(plant, room, x, value)",
    "helms": "helm_paper(plant, walls, goal, left, x) judge_helm(plant, walls, goal, left, x, value) "
             "TreeHelm(plant, paper, x) LevelHelm(plant, levels) CallHelm(call)",
    "foes": "foe_paper(plant, walls, goal, left, x) judge_foe(plant, walls, goal, left, x, value) "
            "PaperFoe(plant, paper) LevelFoe(plant, levels) CallFoe(call)",
    "runs": "run(plant, x, left, helm, foe) judge_history(plant, walls, goal, value) outcome(walls, goal, history)",
    "regions": "in_region(region, point) region_point(region) closing(region) region_paper(region) "
               "judge_region(region, value) region_less(region, room) less_lot(region, lot)",
    "lots": "lot_at(lot, point) all_at(lot, point) lot_within(lot, other) lot_paper(lot, other) "
            "judge_lot_paper(lot, other, value) lots_alike(lot, other) thinned(lot) spare(lot) lot_less(lot, other) "
            "volume_of_lot(lot) lots_met(lot, other) lot_taken(matrix, shift, lot) hull_of_lot(lot) is_one_room(lot) "
            "clumps(lot) road(lot, point, other) judge_road(lot, point, other, value)",
    "tables": "told_at(table, x) made_table(plant, room, target) piece_of(points, wishes) "
              "judge_table(plant, room, target, table) alike(table, other, room) thinned(table, room) "
              "seam(table, room) TableHelm(tables)",
    "locks": "one_piece(plant, room, target) judge_lock(plant, room, target, value)",
    "trees": "check_tree(n, many, value) answer_of(tree, x) depth(tree) grown_tree(table, room) "
             "judge_tree(table, room, tree) parting_rows(table, room) fewest_tests(table, room) "
             "fewest_tree(table, room)",
    "keeping": "keep_fault(plant, walls, room) keep_paper(plant, walls, room) judge_keep(plant, walls, room, value) "
               "layers(plant, walls, most) lost_at(plant, walls, most, x) grown(plant, walls, room, most) "
               "sure_of(plant, walls, room, most, x)",
    "shares": "room_at(room, centre, t) share_at(plant, room, centre, t) shares(plant, room, centre, most) "
              "kept_shares(plant, room, centre) shares_paper(plant, room, centre) "
              "judge_shares(plant, room, centre, value) inner_kept(plant, walls, most)",
    "line": "ends(plant, walls) kept_stretch(plant, walls) stretch_paper(plant, walls) "
            "judge_stretch(plant, walls, value)",
    "prices": "step_price(cost, x, u) end_price(cost, x) price_levels(plant, walls, goal, cost, many) "
              "one_back(plant, walls, cost, price) worth(price, x) lean_price(room, forms) "
              "paying(plant, price, cost, x, t) cheapest(plant, price, cost, x)",
    "pricepapers": "paper_price(plant, cost, left, x, paper) price_paper(plant, walls, goal, cost, left, x, t) "
                   "judge_price(plant, walls, goal, cost, left, x, t, value)",
    "tableprices": "worst_price(plant, cost, tables, x) play_price(plant, cost, tables, x, play)",
    "sights": "right_sight(sight) may_give(sight, x, y) looks_of(sight, room) giving(sight, room, y) "
              "told_apart(sight, x, z) parted(sight, room, other) judge_parted(sight, room, other, value) "
              "spread(sight, room, form) spread_pair(sight, room, form)",
    "possible": "possible(plant, sight, room, record) trace_to(plant, sight, room, record, x) "
                "judge_trace(plant, sight, room, record, x, value) tally(plant, sight, room, record, row) "
                "never(plant, sight, room, record) judge_tally(plant, sight, room, record, row, value)",
    "blind": "wishes_for_all(plant, room, target) wish_for_all(plant, room, target) "
             "judge_for_all(plant, room, target, value) blind_room(plant, room, walls, goal, many) "
             "blind_row(plant, room, walls, goal, many) judge_blind(plant, room, walls, goal, many, value)",
    "looks": "serving(plant, sight, room, target, y) ties_of(plant, target) look_block(plant, sight, room, target) "
             "look_tallies(plant, sight, room, target) judge_look_block(plant, sight, room, target, value) "
             "judge_look_tallies(plant, sight, room, target, value) is_seen_kept(plant, sight, room) "
             "funnel_fault(plant, sight, rooms, walls, goal)",
    "modes": "common_fault(modes) common_wishes(modes) mode_back(modes, kind, walls, room) "
             "mode_levels(modes, kind, walls, goal, many) mode_row_paper(modes, kind, walls, below, row) "
             "judge_mode_row(modes, kind, walls, below, row, value) mode_wish(modes, kind, room, x) "
             "judge_mode_wish(modes, kind, room, x, value) mode_answer(modes, room, x, m, u) "
             "mode_keep_fault(modes, kind, walls, room) mode_layers(modes, kind, walls, most) "
             "trains(modes, lead, many) train_level(modes, walls, goal, train) "
             "train_book(modes, lead, walls, goal, many) best_train(modes, lead, walls, goal, many, x)",
    "figures": "rounded(t, q) rounded_point(point, q) strips(piece, room, q) strip_standing(piece, room, q, t) "
               "rounded_wishes(table, q, point) first_fault(plant, room, goal, table, q) "
               "shows_fault(plant, room, goal, table, q, value) least_figures(plant, room, goal, table, most)",
    "cells": "cells(room, q) cell_standing(room, q, g) seen_fault(plant, room, goal, table, q) "
             "shows_seen(plant, room, goal, table, q, value) least_seen(plant, room, goal, table, most)",
    "grids": "around(room, s) grid_points(room, q) grid_count(room, q) grid_from(room, q, point)",
    "desk": "Desk()", "console": "Console(desk)",
}
METHODS = {
    ("helms", "TreeHelm"): "tell(self, left, x)", ("helms", "LevelHelm"): "tell(self, left, x)",
    ("helms", "CallHelm"): "tell(self, left, x)", ("foes", "PaperFoe"): "blow(self, left, x, u)",
    ("foes", "LevelFoe"): "blow(self, left, x, u)", ("foes", "CallFoe"): "blow(self, left, x, u)",
    ("tables", "TableHelm"): "tell(self, left, x)",
    ("desk", "Desk"): "sheet(self) trip(self) acts(self) act_word(self, act) do(self, act) undo(self) redo(self) "
                      "corners(self, name) inside(self, name, other) level(self, plant, walls, goal, many) "
                      "kept(self, plant, walls, most) is_led(self) wishes(self) answer(self, wish) price(self, cost) "
                      "work(self) mark(self, name) since(self, name) marks(self) twin(self)",
    ("console", "Console"): "answer(self, line)",
}


def told_of(function):
    return function.__name__ + "(" + ", ".join(inspect.signature(function).parameters) + ")"


class TestInterface(unittest.TestCase):
    def test_names_and_arguments(self):
        for name, told in FILES.items():
            module = importlib.import_module("everygust." + name)
            for one in told.replace(") ", ")|").split("|"):
                function = getattr(module, one.split("(")[0])
                self.assertEqual(function.__module__, "everygust." + name)
                self.assertEqual(told_of(function), one)

    def test_methods(self):
        for (name, title), told in METHODS.items():
            found = getattr(importlib.import_module("everygust." + name), title)
            for one in told.replace(") ", ")|").split("|"):
                method = found.__dict__[one.split("(")[0]]
                self.assertEqual(told_of(method), one)


class TestExamples(unittest.TestCase):
    def test_of_part_1(self):
        room = (2, (((1, 0), 1), ((-2, 4), 6)))
        self.assertEqual(room_text(room), "2 {\n1 0 <= 1;\n-2 4 <= 6;\n}\n")
        self.assertEqual(read_point("( 1/2 1 )"), ((1, 2), (1, 1)))

    def test_of_part_2(self):
        room = (2, (((-1, 0), 0), ((0, -1), 0), ((1, 2), 4)))
        self.assertEqual(added_up(room, pt(0, 1, 1)), (pt(1, 1), (4, 1)))
        self.assertEqual(greatest(room, pt(1, 1))[:3], ("most", (4, 1), pt(4, 0)))
        bare = (2, room[1] + (((-1, -1), -5),))
        self.assertEqual(added_up(bare, pt(0, 1, 1, 1)), (pt(0, 0), (-1, 1)))
        flat = (2, (((1, 0), 1), ((-1, 0), -1), ((2, 4), 14), ((1, 1), 9)))
        self.assertEqual([equations(flat), sides(flat)], [[((1, 0), 1)], [((0, 1), 3)]])
        self.assertEqual(lean(flat), (2, (((-1, 0), -1), ((0, 1), 3), ((1, 0), 1))))

    def test_of_the_interface(self):
        square = (2, (((-1, 0), 0), ((0, -1), 0), ((0, 1), 1), ((1, 0), 1)))
        found = [edges(square), face_with(square, (0, 3)), cut(square), volume(square), heart(square),
                 where(square, ((1, 2), (1, 4)))]
        self.assertEqual(found, [
            [(0, 1), (0, 2), (1, 3), (2, 3)], (0, 1, 2, 3), [(0, 1, 3), (0, 2, 3)], (1, 1), ((1, 2), (1, 2)),
            ((0, 2, 3), ((1, 2), (1, 4), (1, 4)))])

    def test_returned_lists_are_new(self):
        for call in (corners, cut, edges, sides, equations):
            first = call(cube(2))
            kept = list(first)
            first.append("more")
            self.assertEqual(call(cube(2)), kept)


def kinds(value):
    """All classes in a value."""
    if type(value) in (tuple, list):
        return {type(value)}.union(*[kinds(one) for one in value])
    return {type(value)}


class TestPlainValues(unittest.TestCase):
    def test_of_no_class_of_its_own(self):
        for value in (corners(cube(3)), cut(cube(3)), lean(cube(3)), greatest(cube(2), pt(1, 1)), heart(cube(2)),
                      where(cube(2), pt(0, 0)), added_up(cube(2), pt(1, 1, 1, 1))):
            self.assertTrue(kinds(value) <= {tuple, list, int, str}, kinds(value))

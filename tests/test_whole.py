"""What [0.2] to [0.5] promise over the whole program, function by function of the interface."""

import copy
import importlib
import unittest
from fractions import Fraction

from everygust.console import Console
from everygust.desk import Desk
from everygust.errors import Bare, TooGreat, Unbounded
from everygust.foes import CallFoe, LevelFoe, PaperFoe, foe_paper
from everygust.helms import CallHelm, LevelHelm, TreeHelm, helm_paper
from everygust.tables import TableHelm
from tests.helpers import ODD, cube, fr, polygon, pt, simplex
from tests.plants import DRIFT, SLIDE, STILL
from tests.sighted import GLANCE, HALF, WALK
from tests.test_interface import FILES
from tests.test_lots import LOT, rough
from tests.test_modes import PAIR
from tests.test_prices import EFFORT, ONE, SIX
from tests.test_tableprices import FAR, FOUR, NEAR

T = (2, (((-1, 0), 0), ((0, -1), 0), ((1, 2), 4)))
S = cube(2, 0, 1)
BARE = (2, T[1] + (((-1, -1), -5),))
WALLS, GOAL, TEN = rough(0, 6), rough(2, 4), rough(-10, 10)
POINTS = [pt(0, 0), pt(4, 0), pt(0, 2), pt(1, 1), pt(4, 0)]
DOUBLE = ((pt(2),), (pt(1),), (pt(0),), pt(0), rough(-1, 1), rough(0, 0))
TABLE = ((rough(0, 3), (pt(-1),), pt(3)), (rough(2, 6), (pt(-1),), pt(3)))
REGION = (2, T[1], (((1, 1), 3),))
SHEET = (("room", "a", T), ("point", "x", pt(1, 2)), ("plant", "p", DRIFT))
LOOK, WISH = pt(0), pt(1)
RECORD = (LOOK, WISH, pt(1))
KEPT = ("kept", ((pt(-1), pt(1)), (pt(1), pt(-1))))
BEGUN = ((PAIR, "hid", TEN, rough(-1, 1)), (PAIR, "heard", TEN, rough(-1, 1)))

# For each function of the interface some lists of arguments; a function is called with each of them.
CALLS = {
    "fractions": {
        "fraction_of": [(6, -4)], "plus": [((1, 2), (1, 3))], "minus": [((1, 2), (1, 3))], "times": [((1, 2), (2, 3))],
        "over": [((1, 2), (2, 3)), ((1, 2), (0, 1))], "total": [([(1, 2), (1, 3)],), ([],)],
        "is_less": [((1, 2), (1, 3))],
        "lowest": [([(1, 2), (1, 3)],)], "highest": [([(1, 2), (1, 3)],)], "floor_of": [((-1, 2),)],
        "ceiling_of": [((-1, 2),)]},
    "rows": {
        "plain_row": [(((2, 4), 6),)], "row_of": [(pt(Fraction(1, 2), -1), (5, 6))], "is_always": [(((0,), 1),)],
        "is_never": [(((0,), -1),)],
        "reach": [(((1, 2), 4), pt(1, 1))], "slack": [(((1, 2), 4), pt(1, 1))], "tight_rows": [(T, pt(0, 0))],
        "first_broken": [(T, pt(9, 9))],
        "is_in": [(T, pt(1, 1))], "joined": [(T, S)], "product": [(T, S)], "shifted": [(T, pt(1, Fraction(1, 2)))],
        "scaled": [(T, (2, 3))],
        "mirrored": [(T,)], "placed": [(T, (1, 0)), (T, [1, 0])], "boxed": [(pt(0, 1), pt(2, 3))], "open_room": [(3,)],
        "image_of": [((pt(1, 2),), pt(3, 4), pt(5))], "next_of": [(DRIFT, pt(1), pt(2), pt(3))]},
    "checks": {
        "check_fraction": [((1, 2),)], "check_point": [(2, pt(1, 2))], "check_row": [(2, ((1, 2), 3))],
        "check_room": [(T,)],
        "check_matrix": [(1, 2, (pt(1, 2),))], "check_plant": [(DRIFT,)], "check_sight": [(GLANCE,)],
        "check_cost": [(EFFORT,)], "check_lot": [(LOT,)],
        "check_table": [(TABLE,)], "check_sheet": [(SHEET,)], "is_name": [("a1",), ("room",)]},
    "lexemes": {"lexemes": [("a 12 <= ;",)]},
    "sheets": {
        "sheet_text": [(SHEET,)], "room_text": [(T,)], "point_text": [(pt(1, 2),)],
        "read_sheet": [("sheet { room a 1 { } }",)], "read_room": [("1 { 1 <= 2; }",)],
        "read_point": [("(1/2 3)",)], "names": [(SHEET,)], "part_of": [(SHEET, "x")],
        "with_part": [(SHEET, ("room", "b", S))], "without_part": [(SHEET, "x")]},
    "solving": {
        "greatest_of": [(2, T[1], pt(1, 1))], "mixed": [([pt(1, 0), pt(0, 1)], pt(1, 1)),
        ([pt(1, 0), pt(0, 1)], pt(-1, 1))],
        "judge_mixed": [([pt(1, 0), pt(0, 1)], pt(1, 1), ("mixed", pt(1, 1)))]},
    "weights": {
        "worth": [(pt(1, 2), pt(3, 4))], "added_up": [(T, pt(0, 1, 1))], "is_bare": [(T,), (BARE,)],
        "bare_paper": [(T,), (BARE,)],
        "judge_bare": [(BARE, pt(0, 1, 1, 1))], "greatest": [(T, pt(1, 1)), (BARE, pt(1, 1)), ((2, ()), pt(1, 1))],
        "judge_greatest": [(T, pt(1, 1), ("most", (4, 1), pt(4, 0), pt(0, 1, 1)))], "follows": [(T, ((1, 1), 4))],
        "following_paper": [(T, ((1, 1), 4)), (T, ((1, 1), 3))],
        "judge_following": [(T, ((1, 1), 4), ("weights", pt(0, 1, 1)))], "is_bounded": [(T,)],
        "bound_paper": [(T,), ((2, ()),)], "judge_bound": [(T, ("box", ()))], "is_inside": [(S, T)],
        "inside_paper": [(S, T), (T, T)],
        "judge_inside": [(S, T, ("point", pt(1, 1)))], "are_alike": [(T, S)],
        "plant_fault": [(DRIFT,), (DRIFT[:5] + ((1, ()),),)]},
    "lean": {
        "equations": [(cube(2, 1, 1),)], "made_0": [([((1, 0), 1)], ((2, 4), 14))], "sides": [(T,)], "lean": [(T,)],
        "is_lean": [(T,)], "needed": [(T,)],
        "thinned": [(T,)]},
    "corners": {
        "corners": [(T,)], "is_corner": [(T, pt(4, 0))], "dimension": [(T,)], "is_inner": [(T, pt(1, 1))],
        "centre": [(T,)], "box": [(T,)], "top": [(T, pt(1, 1))]},
    "faces": {"faces": [(T,)], "edges": [(T,)], "face_rows": [(T, (0, 1))], "face_with": [(T, (0, 2))]},
    "cuts": {
        "cut": [(S,)], "volume": [(S,)], "heart": [(S,)], "where": [(S, pt(1, 0))], "mean_of": [(S, pt(1, 0))],
        "judge_mean": [(S, pt(0, 0), ((0, (1, 1)),))]},
    "hulls": {
        "hull": [(2, POINTS)], "hull_corners": [(2, POINTS)], "hull_paper": [(2, POINTS)],
        "judge_hull": [(2, POINTS, T, (((0, 2), (0, 1), (1, 2)), (0, 2, 1)))],
        "within": [(2, POINTS, pt(1, 1)), (2, POINTS, pt(9, 9))],
        "judge_within": [(2, POINTS, pt(1, 1), ("mean", ((3, (1, 1)),)))]},
    "shadows": {
        "shadow": [(T, (0,)), (T, [0])], "above": [(T, (0,), pt(3)), (T, (0,), pt(5))],
        "judge_above": [(T, (0,), pt(3), ("above", pt(3, 0)))],
        "shadow_paper": [(T, (0,))], "judge_shadow": [(T, (0,), ("bare", pt(0, 0, 0)))]},
    "images": {
        "section": [(T, 1, (1, 1))], "image": [((pt(1, 1),), pt(0), T)],
        "before": [(2, (pt(1, 1),), pt(0), rough(0, 1))], "added": [(T, S)], "shrunk": [(T, S)],
        "rest_paper": [(T, S)], "judge_rest": [(T, S, ())]},
    "steps": {
        "come_by": [(DRIFT, GOAL, pt(2))], "come": [(DRIFT, GOAL)], "greatest_gust": [(DRIFT, pt(-3))],
        "landing": [(DRIFT, GOAL)], "late_landing": [(DRIFT, GOAL)],
        "back_by": [(DRIFT, GOAL, pt(2))], "back": [(DRIFT, GOAL)], "back_mixed": [(DRIFT, GOAL, cube(2, -9, 9))],
        "late_back": [(DRIFT, GOAL)],
        "leads": [(DRIFT, pt(5), pt(-2), GOAL)], "leads_out": [(DRIFT, pt(5), pt(0), GOAL)]},
    "levels": {
        "levels": [(DRIFT, WALLS, GOAL, 2)], "levels_by": [(((DRIFT, "late"),), WALLS, GOAL),
        ([(DRIFT, "early")], WALLS, GOAL)],
        "levels_with": [((WALLS, GOAL), pt(5))], "last_chance": [(DRIFT, WALLS, GOAL, 2, pt(5))],
        "come_to": [(DRIFT, GOAL, 2)]},
    "books": {
        "row_paper": [(DRIFT, WALLS, GOAL, ((1,), 5))], "row_fault": [(DRIFT, WALLS, GOAL, ((1,), 5), None)],
        "level_book": [(DRIFT, WALLS, GOAL, 2)],
        "judge_book": [(DRIFT, WALLS, GOAL, 1, None)]},
    "wishes": {"good_wishes": [(DRIFT, GOAL, pt(5))], "a_wish": [(DRIFT, GOAL, pt(5))], "bar": [(DRIFT, GOAL, pt(6))],
    "judge_bar": [(DRIFT, GOAL, pt(6), None)]},
    "helms": {"helm_paper": [(DRIFT, WALLS, GOAL, 2, pt(5))],
    "judge_helm": [(DRIFT, WALLS, GOAL, 1, pt(5), (pt(-2), ((), ())))]},
    "foes": {"foe_paper": [(DRIFT, WALLS, GOAL, 1, pt(6))], "judge_foe": [(DRIFT, WALLS, GOAL, 1, pt(6), None)]},
    "runs": {"judge_history": [(DRIFT, WALLS, GOAL, ((pt(3),),))], "outcome": [(WALLS, GOAL, ((pt(3),),))]},
    "regions": {
        "in_region": [(REGION, pt(1, 1))], "region_point": [(REGION,)], "closing": [(REGION,)],
        "region_paper": [(REGION,), ((2, (), (((0, 0), 0),)),)],
        "judge_region": [(REGION, ("point", pt(1, 1)))], "region_less": [(REGION, S)], "less_lot": [(REGION, (S,))]},
    "lots": {
        "lot_at": [(LOT, pt(2))], "all_at": [(LOT, pt(2))], "lot_within": [(LOT[:1], LOT), ((rough(2, 5),), LOT)],
        "lot_paper": [((rough(0, 3),), LOT), ((rough(2, 5),), LOT)],
        "judge_lot_paper": [((rough(2, 5),), LOT, ("point", 0, pt(4)))], "lots_alike": [(LOT, LOT)],
        "thinned": [(LOT,)], "spare": [(LOT,)], "lot_less": [(LOT, (rough(1, 2),))], "volume_of_lot": [(LOT,)],
        "lots_met": [(LOT, LOT)],
        "lot_taken": [((pt(2),), pt(1), LOT)], "hull_of_lot": [(LOT,)], "is_one_room": [(LOT,)], "clumps": [(LOT,)],
        "road": [(LOT, pt(0), pt(3))],
        "judge_road": [(LOT, pt(0), pt(3), (pt(0), pt(2), pt(3)))]},
    "tables": {
        "told_at": [(TABLE, pt(2))], "made_table": [(DRIFT, WALLS, rough(1, 5))],
        "piece_of": [([pt(0), pt(6)], [pt(2), pt(-2)])],
        "judge_table": [(DRIFT, WALLS, GOAL, TABLE)], "alike": [(TABLE, TABLE[:1], WALLS)], "thinned": [(TABLE, WALLS)],
        "seam": [(TABLE, WALLS)]},
    "locks": {"one_piece": [(DRIFT, WALLS, rough(1, 5)), (DRIFT, rough(0, 8), rough(1, 5))],
    "judge_lock": [(DRIFT, WALLS, GOAL, ())]},
    "trees": {
        "check_tree": [(1, 2, (((1,), 2), 0, 1))], "answer_of": [((((1,), 2), 0, 1), pt(3))],
        "depth": [((((1,), 2), 0, 1),)], "grown_tree": [(TABLE, WALLS)],
        "judge_tree": [(TABLE, WALLS, None)], "parting_rows": [(TABLE, WALLS)], "fewest_tests": [(TABLE, WALLS)],
        "fewest_tree": [(TABLE, WALLS)]},
    "keeping": {
        "keep_fault": [(DOUBLE, TEN, rough(-2, 2))], "keep_paper": [(DOUBLE, TEN, rough(-1, 1)),
        (DOUBLE, TEN, rough(-2, 2))],
        "judge_keep": [(DOUBLE, TEN, rough(-1, 1), KEPT)], "layers": [(DOUBLE, TEN, 2)],
        "lost_at": [(DOUBLE, TEN, 2, pt(6))],
        "grown": [(DOUBLE, TEN, rough(0, 0), 2)], "sure_of": [(DOUBLE, TEN, rough(0, 0), 2, pt(6))]},
    "shares": {
        "room_at": [(TEN, pt(0), (1, 5))], "share_at": [(DOUBLE, TEN, pt(0), (1, 1))],
        "shares": [(DRIFT, TEN, pt(0), 3)], "kept_shares": [(DOUBLE, TEN, pt(0))],
        "shares_paper": [(DOUBLE, TEN, pt(0)), (DOUBLE[:3] + (pt(5),) + DOUBLE[4:], TEN, pt(0))],
        "judge_shares": [(DOUBLE, TEN, pt(0), None)],
        "inner_kept": [(DOUBLE, TEN, 2)]},
    "line": {"ends": [(DOUBLE, TEN)], "kept_stretch": [(DOUBLE, TEN)], "stretch_paper": [(DOUBLE, TEN)],
    "judge_stretch": [(DOUBLE, TEN, None)]},
    "prices": {
        "step_price": [(EFFORT, pt(1), pt(2))], "end_price": [(EFFORT, pt(1))],
        "price_levels": [(DRIFT, SIX, ONE, EFFORT, 2)],
        "one_back": [(DRIFT, SIX, EFFORT, (rough(-1, 1)[:1] + ((((-1,), 1), ((1,), 1)),), (((0,), 0, 1),)))],
        "worth": [((SIX, (((1,), 0, 2),)), pt(1))],
        "lean_price": [(SIX, (((1,), 0, 1), ((-1,), 0, 1))), (SIX, [((1,), 0, 1)])],
        "paying": [(DRIFT, (SIX, (((1,), 0, 2),)), EFFORT, pt(1), (9, 1))],
        "cheapest": [(DRIFT, (SIX, (((1,), 0, 2),)), EFFORT, pt(1))]},
    "pricepapers": {
        "paper_price": [(DRIFT, EFFORT, 1, pt(2), (pt(-2), ((), ())))],
        "price_paper": [(DRIFT, SIX, ONE, EFFORT, 1, pt(2), (3, 1)), (DRIFT, SIX, ONE, EFFORT, 1, pt(2), (2, 1))],
        "judge_price": [(DRIFT, SIX, ONE, EFFORT, 1, pt(2), (3, 1), None)]},
    "tableprices": {"worst_price": [(DRIFT, FOUR, (NEAR, FAR), pt(0)), (DRIFT, FOUR, [NEAR, FAR], pt(0))],
    "play_price": [(DRIFT, FOUR, (FAR,), pt(0), ((0, pt(1)),))]},
    "sights": {
        "right_sight": [(GLANCE,)], "may_give": [(GLANCE, pt(0), pt(0))], "looks_of": [(GLANCE, GOAL)],
        "giving": [(GLANCE, GOAL, pt(2))],
        "told_apart": [(GLANCE, pt(0), pt(1))], "parted": [(GLANCE, GOAL, rough(5, 6)), (GLANCE, GOAL, GOAL)],
        "judge_parted": [(GLANCE, GOAL, GOAL, None)],
        "spread": [(GLANCE, GOAL, pt(1))], "spread_pair": [(GLANCE, GOAL, pt(1))]},
    "possible": {
        "possible": [(WALK, GLANCE, TEN, RECORD)], "trace_to": [(WALK, GLANCE, TEN, RECORD, pt(1))],
        "judge_trace": [(WALK, GLANCE, TEN, RECORD, pt(1), None)],
        "tally": [(WALK, GLANCE, TEN, RECORD, ((1,), 9))], "never": [(WALK, GLANCE, TEN, RECORD),
        (WALK, GLANCE, TEN, (pt(0), WISH, pt(9)))],
        "judge_tally": [(WALK, GLANCE, TEN, RECORD, None, None)]},
    "blind": {
        "wishes_for_all": [(WALK, HALF, ONE)], "wish_for_all": [(WALK, HALF, ONE), (WALK, ONE, ONE)],
        "judge_for_all": [(WALK, HALF, ONE, None)],
        "blind_room": [(WALK, HALF, TEN, ONE, 2)], "blind_row": [(WALK, HALF, TEN, ONE, 1), (WALK, HALF, TEN, ONE, 2)],
        "judge_blind": [(WALK, HALF, TEN, ONE, 1, None)]},
    "looks": {
        "serving": [(WALK, GLANCE, ONE, ONE, pt(0))], "ties_of": [(WALK, ONE)],
        "look_block": [(WALK, GLANCE, ONE, ONE), (WALK, GLANCE, ONE, HALF)],
        "look_tallies": [(WALK, GLANCE, ONE, ONE)], "judge_look_block": [(WALK, GLANCE, ONE, ONE, None)],
        "judge_look_tallies": [(WALK, GLANCE, ONE, ONE, None)],
        "is_seen_kept": [(WALK, GLANCE, ONE)], "funnel_fault": [(WALK, GLANCE, (HALF, ONE), TEN, ONE),
        (WALK, GLANCE, [HALF, ONE], TEN, HALF)]},
    "modes": {
        "common_fault": [(PAIR,), ((PAIR[0], STILL[:4] + ((0, ()), (0, ()))),)], "common_wishes": [(PAIR,)],
        "mode_back": list(BEGUN),
        "mode_levels": [begun + (2,) for begun in BEGUN], "mode_row_paper": [begun + (((1,), 1),) for begun in BEGUN],
        "judge_mode_row": [begun + (((1,), 1), None) for begun in BEGUN],
        "mode_wish": [(PAIR, "heard", TEN, pt(0)), (PAIR, "hid", TEN, pt(0))],
        "judge_mode_wish": [(PAIR, "hid", TEN, pt(0), None)], "mode_answer": [(PAIR, ONE, pt(1), 0, pt(1))],
        "mode_keep_fault": list(BEGUN),
        "mode_layers": [(PAIR, "hid", TEN, 2)], "trains": [(PAIR, ((0, 0), (0, 1)), 2)],
        "train_level": [(PAIR, TEN, ONE, (0, 1))],
        "train_book": [(PAIR, ((0, 0), (0, 1)), TEN, ONE, 2)],
        "best_train": [(PAIR, ((0, 0), (0, 1)), TEN, ONE, 2, pt(0))]},
    "figures": {
        "rounded": [((1, 3), 2)], "rounded_point": [(pt(Fraction(1, 3)), 2)], "strips": [(TABLE[0], WALLS, 2)],
        "strip_standing": [(TABLE[0], WALLS, 2, (3,))],
        "rounded_wishes": [(TABLE, 2, pt(2))], "first_fault": [(DRIFT, WALLS, GOAL, TABLE, 1)],
        "shows_fault": [(DRIFT, WALLS, GOAL, TABLE, 1, None)],
        "least_figures": [(DRIFT, WALLS, GOAL, TABLE, 3)]},
    "cells": {
        "cells": [(WALLS, 1)], "cell_standing": [(WALLS, 1, pt(2))], "seen_fault": [(DRIFT, WALLS, GOAL, TABLE, 1)],
        "shows_seen": [(DRIFT, WALLS, GOAL, TABLE, 1, None)],
        "least_seen": [(DRIFT, WALLS, GOAL, TABLE, 3)]},
    "grids": {"around": [(T, 1)], "grid_points": [(T, 2)], "grid_count": [(T, 2)], "grid_from": [(T, 2, pt(1, 1))]},
}
CLASSES = ("TreeHelm", "LevelHelm", "CallHelm", "PaperFoe", "LevelFoe", "CallFoe", "TableHelm", "Desk", "Console",
    "run")

# All judges, each with what stands ahead of the value, and what it tells of what is none in form.
FORM = ("form",)
JUDGES = [
    ("solving", "judge_mixed", ([pt(1, 0)], pt(1, 1)), FORM), ("weights", "judge_bare", (T,), FORM),
    ("weights", "judge_greatest", (T, pt(1, 1)), FORM),
    ("weights", "judge_following", (T, ((1, 1), 4)), FORM), ("weights", "judge_bound", (T,), FORM),
    ("weights", "judge_inside", (T, S), FORM),
    ("cuts", "judge_mean", (S, pt(0, 0)), FORM), ("hulls", "judge_hull", (2, POINTS, T), FORM),
    ("hulls", "judge_within", (2, POINTS, pt(1, 1)), FORM),
    ("shadows", "judge_above", (T, (0,), pt(3)), FORM), ("shadows", "judge_shadow", (T, (0,)), FORM),
    ("images", "judge_rest", (T, S), FORM),
    ("books", "row_fault", (DRIFT, WALLS, GOAL, ((1,), 5)), FORM),
    ("books", "judge_book", (DRIFT, WALLS, GOAL, 1), FORM), ("wishes", "judge_bar", (DRIFT, GOAL, pt(6)), FORM),
    ("helms", "judge_helm", (DRIFT, WALLS, GOAL, 1, pt(5)), ("form", ())),
    ("foes", "judge_foe", (DRIFT, WALLS, GOAL, 1, pt(6)), FORM),
    ("runs", "judge_history", (DRIFT, WALLS, GOAL), FORM), ("regions", "judge_region", (REGION,), FORM),
    ("lots", "judge_lot_paper", (LOT, LOT), FORM),
    ("lots", "judge_road", (LOT, pt(0), pt(3)), FORM), ("locks", "judge_lock", (DRIFT, WALLS, GOAL), FORM),
    ("keeping", "judge_keep", (DOUBLE, TEN, ONE), FORM),
    ("shares", "judge_shares", (DOUBLE, TEN, pt(0)), FORM), ("line", "judge_stretch", (DOUBLE, TEN), FORM),
    ("pricepapers", "judge_price", (DRIFT, SIX, ONE, EFFORT, 1, pt(2), (3, 1)), FORM),
    ("sights", "judge_parted", (GLANCE, ONE, ONE), FORM),
    ("possible", "judge_trace", (WALK, GLANCE, TEN, RECORD, pt(1)), FORM),
    ("possible", "judge_tally", (WALK, GLANCE, TEN, RECORD, None), FORM),
    ("blind", "judge_for_all", (WALK, HALF, ONE), FORM), ("blind", "judge_blind", (WALK, HALF, TEN, ONE, 1), FORM),
    ("looks", "judge_look_block", (WALK, GLANCE, ONE, ONE), FORM),
    ("looks", "judge_look_tallies", (WALK, GLANCE, ONE, ONE), FORM),
    ("modes", "judge_mode_row", (PAIR, "hid", TEN, ONE, ((1,), 1)), FORM),
    ("modes", "judge_mode_wish", (PAIR, "heard", TEN, pt(0)), FORM),
    ("modes", "judge_mode_wish", (PAIR, "hid", TEN, pt(0)), FORM),
    ("figures", "shows_fault", (DRIFT, WALLS, GOAL, TABLE, 1), False),
    ("cells", "shows_seen", (DRIFT, WALLS, GOAL, TABLE, 1), False)]


def deep(depth, within):
    """Tuples and lists in one another."""
    for k in range(depth):
        within = (within,) if k % 2 else [within]
    return within


def called(name, title):
    return getattr(importlib.import_module("everygust." + name), title)


def lists_in(value):
    """All lists and dicts in a value, itself too."""
    if isinstance(value, (list, tuple)):
        return [value] * isinstance(value, list) + [one for part in value for one in lists_in(part)]
    return [value] + [one for part in value.values() for one in lists_in(part)] if isinstance(value, dict) else []


def as_tuples(value):
    """The value with a tuple in the place of each list."""
    return tuple(as_tuples(one) for one in value) if isinstance(value, (list, tuple)) else value


def is_plain(value):
    if type(value) in (tuple, list):
        return all(is_plain(one) for one in value)
    return value is None or type(value) in (int, str, bool)


class TestFunctions(unittest.TestCase):
    def every(self):
        for name, told in CALLS.items():
            for title, lots in told.items():
                for args in lots:
                    yield called(name, title), args

    def test_all_are_called(self):
        for name, told in FILES.items():
            titles = {one.split("(")[0] for one in told.replace(") ", ")|").split("|")}
            self.assertEqual(titles - set(CLASSES), set(CALLS.get(name, {})), name)

    def test_arguments_stay_and_answers_come_again(self):
        for call, args in self.every():
            kept = copy.deepcopy(args)
            first = call(*args)
            self.assertEqual(args, kept, call)
            self.assertEqual(call(*copy.deepcopy(kept)), first, call)
            self.assertEqual(call(*as_tuples(kept)), first, call)

    def test_answers_are_plain(self):
        for call, args in self.every():
            self.assertTrue(is_plain(call(*args)), call)

    def test_lists_are_new(self):
        for call, args in self.every():
            first = call(*args)
            kept = copy.deepcopy(first)
            told = lists_in(first)
            self.assertEqual(len({id(one) for one in told}), len(told), call)
            self.assertFalse({id(one) for one in told} & {id(one) for one in lists_in(args)}, call)
            for one in told:
                one.append("more")
            self.assertEqual(call(*args), kept, call)


class TestJudges(unittest.TestCase):
    def values(self):
        desk = Desk()
        made = [desk, Console(desk), CallHelm(len), CallFoe(len), LevelHelm(DRIFT, (GOAL,)), LevelFoe(DRIFT, (GOAL,)),
            TableHelm((TABLE,)),
                TreeHelm(DRIFT, helm_paper(DRIFT, WALLS, GOAL, 1, pt(5)), pt(5)),
                PaperFoe(DRIFT, foe_paper(DRIFT, WALLS, GOAL, 1, pt(6))), Bare(), TooGreat()]
        made += [(one,) for one in made] + [("kept", desk), ("most", desk, desk, desk), (desk, desk),
            (desk, desk, desk)]
        found = ODD + made + [deep(39, 1), deep(39, ()), (0,) * 3999, ("x",) * 3999, ((0, 1),) * 1200, 10 ** 699,
            -10 ** 699, ((10 ** 699, 10 ** 699),), {1: (2, 3)}, {"kept": ()}]
        for word in ("bare", "most", "far", "weights", "point", "way", "box", "rows", "mean", "row", "above", "none",
                "shadow", "trees", "split", "in", "kept", "wall",
                     "lost", "shares", "apart", "pays", "dear", "both", "wish", "block", "mixed", "parted", "hole",
                     "next", "blank"):
            for behind in ((), (1,), (None,), ((),), ((), ()), ((), (), ()), (True, (), {}), ([], []),
                    ((1, 2), (3, 4), (5, 6)), (deep(30, word),) * 2, (desk,) * 4):
                found.append((word,) + behind)
                found.append([word] + list(behind))
        return found

    def test_judges_of_anything(self):
        values = self.values()
        for name, title, args, form in JUDGES:
            judge = called(name, title)
            for value in values:
                fault = judge(*args, value)
                if form is False:
                    self.assertIs(fault, False)
                    continue
                # What is no tuple is never in form; a tuple may be right by chance, and no judge raises.
                if type(value) is not tuple:
                    self.assertEqual(fault, form, (title, value))
                self.assertTrue(fault is None or type(fault) is tuple and type(fault[0]) is str, (title, value, fault))

    def test_all_judges_are_here(self):
        told = {(name, title) for name, title, _, _ in JUDGES}
        due = {(name, one.split("(")[0]) for name, text in FILES.items() for one in text.replace(") ", ")|").split("|")
               if one.endswith("value)") and not one.startswith(("check_", "is_name"))}
        self.assertEqual(due - told, set())

    def test_arguments_of_judges_stay(self):
        for name, title, args, _ in JUDGES:
            for value in (["bare", [1, {"a": []}]], ("kept", [[]]), {"a": [1]}):
                kept = copy.deepcopy((args, value))
                called(name, title)(*args, value)
                self.assertEqual((args, value), kept)


class TestObjects(unittest.TestCase):
    def test_keep_no_lists(self):
        levels = [rough(2, 4), rough(1, 5)]
        helm, foe = LevelHelm(DRIFT, levels), LevelFoe(DRIFT, levels)
        tables = [TABLE]
        table = TableHelm(tables)
        before = [helm.tell(2, pt(6)), foe.blow(2, pt(6), pt(0)), table.tell(1, pt(2))]
        levels[1] = rough(-99, 99)
        tables[0] = ()
        self.assertEqual([helm.tell(2, pt(6)), foe.blow(2, pt(6), pt(0)), table.tell(1, pt(2))], before)

    def test_marks_and_acts_are_the_desk_s(self):
        desk = Desk()
        for _ in range(2):
            desk.do(("put", ("room", "a", T)))
        desk.acts().clear()
        desk.marks().append("z")
        desk.corners("a").clear()
        self.assertEqual([len(desk.acts()), desk.marks(), len(desk.corners("a"))], [2, [], 3])


class TestOrders(unittest.TestCase):
    def test_rooms_one_after_another(self):
        # A room without points, one that is not bounded, and one that is too great, in the order of the parameters.
        bare, far, great = (2, (((0, 0), -1),)), (2, (((1, 0), 1),)), polygon(301)
        for title in ("corners", "centre", "box"):
            for room, error in ((bare, Bare), (far, Unbounded), (great, TooGreat)):
                self.assertRaises(error, called("corners", title), room)
        self.assertRaises(Unbounded, called("images", "added"), far, bare)
        self.assertEqual(called("images", "added")(bare, bare), bare)
        self.assertRaises(Unbounded, called("images", "added"), bare, far)
        glance = ((pt(1, 0), pt(0, 1)), cube(2))
        self.assertRaises(Bare, called("sights", "parted"), glance, bare, far)
        self.assertRaises(Unbounded, called("sights", "parted"), glance, far, bare)
        self.assertRaises(Unbounded, called("figures", "strips"), ((2, ()), (pt(99, 0),), pt(0)), far, 9)
        self.assertRaises(Unbounded, called("grids", "grid_count"), far, 60)
        self.assertRaises(Bare, called("blind", "wishes_for_all"), SLIDE, bare, far)
        self.assertRaises(Unbounded, called("looks", "look_block"), SLIDE, glance, far, bare)
        self.assertRaises(TooGreat, called("looks", "look_block"), SLIDE, glance, far, polygon(11))

    def test_too_great_just_above(self):
        # The lean form of 80 rows is told, that of one more is refused, and rows that fall away do not count.
        fits = polygon(80)
        self.assertEqual(len(called("levels", "levels")(STILL, fits, (2, fits[1] * 3), 1)[1][1]), 80)
        self.assertRaises(TooGreat, called("levels", "levels"), STILL, polygon(81), polygon(81), 0)
        self.assertEqual(len(called("corners", "corners")(polygon(300))), 300)
        self.assertRaises(TooGreat, called("corners", "corners"), polygon(301))

    def test_numbers_are_no_truths(self):
        self.assertEqual(called("weights", "judge_bare")(simplex(1), ((True, 1), (0, 1))), ("form",))
        self.assertEqual(Desk().act_word(("start", "a", "b", "c", True, "d")), "name")
        self.assertEqual(called("rows", "is_in")(T, pt(0, 0)) is True, True)
        self.assertEqual(fr(1, 2), (1, 2))

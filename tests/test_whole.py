"""What holds over the whole program: [0.1] to [0.5]."""

import importlib
import inspect
import itertools
import unittest

from betweencoats.apart import apart
from betweencoats.errors import Refused
from betweencoats.floor import Floor
from betweencoats.freeleast import free_least
from betweencoats.freelinks import free_come, free_link
from betweencoats.leastruns import least_run
from betweencoats.linkjudge import link_right
from betweencoats.links import link
from betweencoats.nets import Net
from betweencoats.netshapes import line_net, ring_net, star_net
from betweencoats.never import never_paper
from betweencoats.neverjudge import never_right
from betweencoats.rounds import rounds
from betweencoats.rowtext import row_of, row_text, run_of, run_text
from betweencoats.runs import run_back, run_right, states_of
from betweencoats.same import come
from betweencoats.standings import standings_of
from betweencoats.tables import Table
from betweencoats.tableshapes import all_coats, doubled, line_coats, unlike_coats
from betweencoats.worlds import World, made_world
from betweencoats.worldtext import text_of_world, world_of
from tests.plainly import ODD_THINGS, Case, nested, shortest_runs, small_worlds, standings
from tests.test_interface import FUNCTIONS

U3, LINE3, SQUARE = unlike_coats(3), line_net(3), ring_net(4)
WORLD = made_world(U3, SQUARE, pegs=(0,))
FREE = made_world(U3, ring_net(5))
ENDS = made_world(U3, line_net(3), pegs=(0, 2))
A, B, C = (0, 1, 0, 1), (0, 2, 0, 2), (0, 1, 2, 1)
FIVE = (0, 1, 2, 0, 1)
ONES = ((1, 1, 1),) * 5

# For each function of the interface arguments, by their names, that it takes.
CALLS = {
    "made_table": {"rows": ((1,), (0,))}, "all_coats": {"q": 2}, "unlike_coats": {"q": 2}, "line_coats": {"q": 2},
    "ring_coats": {"q": 3}, "doubled": {"table": U3}, "even_degree": {"table": U3}, "even_lots": {"table": U3},
    "made_net": {"many": 2, "threads": ((0, 1),)}, "line_net": {"n": 2}, "star_net": {"n": 2}, "ring_net": {"n": 3},
    "grid_net": {"w": 2, "h": 2}, "apart": {"net": SQUARE, "x": 1}, "uppers": {"net": SQUARE, "x": 1},
    "made_world": {"table": U3, "net": SQUARE, "pegs": (1,)}, "is_standing": {"world": WORLD, "thing": A},
    "standings_of": {"world": WORLD}, "rest": {"row": (0, 1, 0)}, "is_straight": {"row": A}, "strikes": {"row": A},
    "turns": {"row": A}, "back": {"row": A}, "joined": {"one": (0, 1), "two": (1, 2)}, "gap": {"one": (0, 1), "two": (0,)},
    "core": {"row": (0, 1, 2, 0)}, "lets": {"world": WORLD, "standing": A},
    "done": {"world": WORLD, "standing": A, "place": 1, "coat": 2},
    "run_end": {"world": WORLD, "standing": A, "run": ((1, 2),)}, "states_of": {"world": WORLD, "standing": A, "run": ((1, 2),)},
    "run_back": {"world": WORLD, "standing": A, "run": ((1, 2),)}, "run_right": {"world": WORLD, "a": A, "b": A, "run": ()},
    "trace": {"world": WORLD, "standing": A, "run": ((1, 2),)}, "class_of": {"world": WORLD, "standing": A},
    "frozen": {"world": WORLD, "a": A}, "linked_from": {"world": WORLD, "a": A, "b": B, "first": (0,)},
    "link": {"world": WORLD, "a": A, "b": B}, "link_right": {"world": WORLD, "a": A, "b": A, "rows": ((0,), (1,), (0,), (1,))},
    "lifts": {"world": WORLD, "a": A}, "is_flat": {"world": WORLD, "a": A}, "key": {"world": WORLD, "a": A},
    "rounds_right": {"world": WORLD, "a": A, "b": A, "rounds": ()}, "between": {"world": WORLD, "a": A, "x": A, "b": B},
    "cost": {"world": WORLD, "a": A, "b": B, "prices": (1, 2, 3, 4)}, "forks": {"world": WORLD, "a": A, "b": B, "c": C},
    "meets": {"world": WORLD, "a": A, "b": B, "c": C}, "gathering": {"world": WORLD, "a": A, "b": B, "c": C},
    "with_pegs": {"world": WORLD, "places": (2,)}, "without_peg": {"world": WORLD, "place": 0},
    "with_table": {"world": WORLD, "table": all_coats(2)}, "pieces": {"world": WORLD}, "piece_world": {"world": WORLD, "k": 0},
    "glued": {"one": WORLD, "two": ENDS, "x": 0, "y": 2}, "is_net_map": {"net": LINE3, "other": SQUARE, "places": (0, 1, 0)},
    "pulled": {"standing": A, "places": (0, 1)}, "shown": {"world": WORLD, "a": A, "place": 1},
    "filled": {"world": WORLD, "a": A, "wants": ((1, (0, 2)),)}, "normal": {"table": U3, "row": A},
    "hand_run": {"table": U3, "row": A}, "row_count": {"table": U3, "W": (0,), "L": 4}, "all_rows": {"table": U3, "p": 0, "L": 4},
    "rows_between": {"table": U3, "p": 0, "z": 1, "L": 3}, "even_count": {"q": 3, "m": 0, "L": 4},
    "classes_between": {"table": U3, "p": 0, "z": 0, "L": 3}, "nth_row": {"table": U3, "W": (0,), "L": 4, "n": 5},
    "rank_of": {"table": U3, "row": A}, "lightest": {"table": U3, "W": (0,), "L": 4, "weights": ONES},
    "weighed": {"table": U3, "W": (0,), "L": 4, "weights": ONES}, "tree_size": {"world": ENDS, "a": (0, 1, 0)},
    "ring_key": {"table": U3, "ring": FIVE}, "straight_rings": {"table": U3, "n": 6}, "ring_classes": {"table": U3, "n": 6},
    "ring_class_size": {"table": U3, "ring": FIVE}, "ring_least": {"table": U3, "a": FIVE, "b": FIVE},
    "best_link": {"world": WORLD, "a": A, "b": B, "most": 2}, "tree_come": {
        "world": made_world(U3, LINE3), "a": (0, 1, 0), "b": (1, 0, 1)},
    "is_map": {"table": U3, "other": U3, "coats": (0, 1, 2)}, "image": {"row": (0, 1), "coats": (1, 2)},
    "is_cover": {"table": U3, "other": U3, "coats": (0, 1, 2)}, "over": {
        "table": doubled(U3), "other": U3, "coats": (0, 0, 1, 1, 2, 2), "net": LINE3, "standing": (0, 1, 2), "first": 1},
    "never_paper": {"world": WORLD, "a": A, "b": (1, 0, 1, 0)}, "never_right": {
        "world": WORLD, "a": A, "b": (1, 0, 1, 0), "paper": ("stand", (0,), (0,))},
    "row_text": {"numbers": (1, 2)}, "row_of": {"text": "1 2"}, "run_text": {"run": ((1, 2),)}, "run_of": {"text": "1:2"},
    "text_of_world": {"world": WORLD}, "world_of": {"text": text_of_world(WORLD)},
}
for _name in ("come", "work", "least", "lessening", "least_run", "rounds", "tracks", "least_runs", "between_many", "bars",
              "quiet"):
    CALLS[_name] = {"world": WORLD, "a": A, "b": B}
for _name in ("free_come", "free_link", "free_least"):
    CALLS[_name] = {"world": FREE, "a": FIVE, "b": (0, 1, 2, 0, 2)}
JUDGES = (
    "is_standing", "is_net_map", "is_map", "is_cover", "run_right", "link_right", "rounds_right", "never_right")
YES_OR_NO = JUDGES + ("is_straight", "is_flat", "come", "between", "tree_come", "free_come")


def functions():
    """(name, function, arguments by name) for each function of the interface."""
    for file, signatures in FUNCTIONS.items():
        module = importlib.import_module("betweencoats." + file)
        for signature in signatures:
            name = signature.partition("(")[0]
            yield name, getattr(module, name), CALLS[name]


def parts(thing):
    yield thing
    if isinstance(thing, tuple):
        for part in thing:
            yield from parts(part)


class Calls(Case):

    def test_by_position_and_by_name(self):
        for name, function, args in functions():
            parameters = inspect.signature(function).parameters
            self.assertEqual(list(parameters), list(args), name)
            by_name = {key: args[key] for key, kind in parameters.items() if kind.kind == kind.KEYWORD_ONLY}
            plain = [args[key] for key in parameters if key not in by_name]
            found = function(**args)
            self.assertEqual(function(*plain, **by_name), found, name)
            turned = dict(reversed(list(args.items())))
            self.assertEqual(function(**turned), found, name)

    def test_what_is_returned(self):
        for name, function, args in functions():
            for part in parts(function(**args)):
                self.assertIn(type(part), (tuple, int, bool, str, type(None), Table, Net, World), name)
            self.assertIs(type(function(**args)) is bool, name in YES_OR_NO, name)

    def test_objects_hold_tuples(self):
        for name, function, args in functions():
            found = function(**args)
            if isinstance(found, World):
                self.assertIsInstance(found.pegs, tuple)
                self.check_net(found.net)
                self.check_table(found.table)
            elif isinstance(found, Net):
                self.check_net(found)
            elif isinstance(found, Table):
                self.check_table(found)

    def check_net(self, net):
        self.assertIsInstance(net.threads, tuple)
        self.assertEqual({type(row) for row in net.near + (net.near,)}, {tuple})
        self.assertLessEqual({type(row) for row in net.threads}, {tuple})

    def check_table(self, table):
        self.assertEqual({type(row) for row in table.beside + (table.beside,)}, {tuple})

    def test_nothing_handed_in_is_changed(self):
        kept = (text_of_world(WORLD), text_of_world(FREE), text_of_world(ENDS))
        for _, function, args in functions():
            before = repr([value for value in args.values() if isinstance(value, (tuple, int, str))])
            first, second = function(**args), function(**args)
            self.assertEqual(first, second)
            self.assertEqual(repr([value for value in args.values() if isinstance(value, (tuple, int, str))]), before)
        self.assertEqual((text_of_world(WORLD), text_of_world(FREE), text_of_world(ENDS)), kept)

    def test_judges_raise_nothing(self):
        deep = (nested(100), (nested(99), nested(99)), (0,) * 10 ** 5, ((0, 1),) * 30000, (10 ** 40,), "x" * 1000)
        for name, function, args in functions():
            if name in JUDGES:
                loose = [key for key, value in args.items() if not isinstance(value, (World, Net, Table))]
                self.assertIs(function(**args), True, name)
                for thing in ODD_THINGS + deep:
                    for key in loose:
                        found = function(**{**args, key: thing})
                        self.assertIs(type(found), bool, name)
                        if key in ("thing", "places", "coats", "rows", "paper", "rounds", "run"):
                            self.assertIs(found, thing == args[key] or name == "rounds_right" and thing == (), (name, thing))

    def test_errors_stand_under_refused(self):
        # One number too great, at each argument that is one, and at each tuple of numbers.
        some = 0
        for name, function, args in functions():
            if name not in JUDGES:
                for key, value in args.items():
                    bad = {int: 10 ** 9, tuple: value[:-1] + (10 ** 9,) if isinstance(value, tuple) else None}
                    flat = isinstance(value, tuple) and all(isinstance(part, int) for part in value)
                    # These two may hold any numbers.
                    if (name, key) in (("pulled", "standing"), ("image", "coats")):
                        continue
                    if isinstance(value, int) or flat:
                        with self.assertRaises(Refused, msg=(name, key)) as held:
                            function(**{**args, key: bad[type(value)]})
                        self.assertEqual(type(held.exception).__bases__, (Refused,))
                        some += 1
        self.assertGreater(some, 90)


class Laws(Case):
    """[0.3]: what holds."""

    def test_with_pegs(self):
        for world in list(small_worlds(pegged_only=True))[::3]:
            known = standings(world)
            for a in known[::max(10, len(known) // 3)]:
                runs = shortest_runs(world, a)
                for b in known[::5]:
                    self.check_pegged(world, a, b, runs.get(b))

    def check_pegged(self, world, a, b, run):
        paper = never_paper(world, a, b)
        self.assertIs(come(world, a, b), run is not None)
        self.assertIs(link_right(world, a, b, link(world, a, b)), run is not None)
        if run is None:
            self.assertIs(never_right(world, a, b, paper), True)
            self.assertIsNone(least_run(world, a, b))
            self.assertIsNone(rounds(world, a, b))
        else:
            self.assertIsNone(paper)
            self.assertEqual(len(least_run(world, a, b)), len(run))
            self.assertIs(run_right(world, a, b, least_run(world, a, b)), True)
            # Whatever is done can be undone by as many deeds.
            home = run_back(world, a, run)
            self.assertEqual(len(home), len(run))
            self.assertIs(run_right(world, b, a, home), True)
            self.assertEqual(states_of(world, b, home), states_of(world, a, run)[::-1])

    def test_without_pegs(self):
        for world in list(small_worlds())[::5]:
            if not world.pegs:
                known = standings(world)
                for a in known[::max(7, len(known) // 4)]:
                    runs = shortest_runs(world, a)
                    for b in known[::5]:
                        self.assertIs(free_come(world, a, b), b in runs)
                        if b not in runs:
                            self.assertIsNone(free_link(world, a, b))
                            self.assertIsNone(free_least(world, a, b))

    def test_texts(self):
        for world in small_worlds():
            self.assertEqual(world_of(text_of_world(world)), world)
        for row in itertools.product((0, 1, 9, 10, 99, 100, 999), repeat=3):
            self.assertEqual(row_of(row_text(row)), row)
            run = tuple(zip(row, row[1:]))
            self.assertEqual(run_of(run_text(run)), run)

    def test_a_floor_can_be_undone_by_as_many_deeds(self):
        world = made_world(line_coats(4), star_net(4), pegs=(2,))
        for a in standings_of(world):
            one = Floor(world, a)
            for b in sorted(shortest_runs(world, a))[::7]:
                run = least_run(world, a, b)
                for place, coat in run:
                    one.put(place, coat)
                self.assertEqual((one.now(), one.away()), (b, len(run)))
                for _ in run:
                    one.undo()
                self.assertEqual((one.now(), one.away()), (a, 0))

    def test_equal_tables_nets_and_worlds(self):
        self.assertTrue(unlike_coats(3) == U3 and not unlike_coats(3) != U3)
        self.assertTrue(line_net(3) == LINE3 and not line_net(3) != LINE3)
        self.assertTrue(made_world(U3, SQUARE, pegs=(0,)) == WORLD and not made_world(U3, SQUARE, pegs=(0,)) != WORLD)
        for one, two in itertools.combinations((U3, LINE3, SQUARE, WORLD, FREE, ENDS, made_world(U3, SQUARE), None, 0), 2):
            self.assertTrue(one != two and not one == two)

    def test_a_changed_result_is_not_seen_again(self):
        # What is returned is made of tuples, so it can be kept.
        self.assertIs(type(apart(SQUARE, 0)), tuple)
        self.assertEqual(hash(link(WORLD, A, B)), hash(link(WORLD, A, B)))


if __name__ == "__main__":
    unittest.main()

"""The interface: names, arguments, and where each thing is defined: [0.1] and the part "The interface"."""

import importlib
import inspect
import pathlib
import unittest

FOLDER = pathlib.Path(__file__).resolve().parent.parent / "betweencoats"

FUNCTIONS = {
    "tables": ("made_table(rows)",),
    "tableshapes": (
        "all_coats(q)", "unlike_coats(q)", "line_coats(q)", "ring_coats(q)", "doubled(table)", "even_degree(table)"),
    "evenlots": ("even_lots(table)",),
    "nets": ("made_net(many, threads)",),
    "netshapes": ("line_net(n)", "star_net(n)", "ring_net(n)", "grid_net(w, h)"),
    "apart": ("apart(net, x)", "uppers(net, x)"),
    "worlds": ("made_world(table, net, *, pegs=())",),
    "standings": ("is_standing(world, thing)", "standings_of(world)"),
    "rests": ("rest(row)", "is_straight(row)", "strikes(row)", "turns(row)", "back(row)"),
    "joins": ("joined(one, two)",),
    "gaps": ("gap(one, two)",),
    "cores": ("core(row)",),
    "lets": ("lets(world, standing)", "done(world, standing, place, coat)"),
    "runs": (
        "run_end(world, standing, run)", "states_of(world, standing, run)", "run_back(world, standing, run)",
        "run_right(world, a, b, run)"),
    "traces": ("trace(world, standing, run)",),
    "classes": ("class_of(world, standing)",),
    "frozen": ("frozen(world, a)",),
    "links": ("linked_from(world, a, b, first)", "link(world, a, b)"),
    "linkjudge": ("link_right(world, a, b, rows)",),
    "lifts": ("lifts(world, a)", "is_flat(world, a)"),
    "keys": ("key(world, a)",),
    "same": ("come(world, a, b)",),
    "work": ("work(world, a, b)", "least(world, a, b)"),
    "leastruns": ("lessening(world, a, b)", "least_run(world, a, b)"),
    "rounds": ("rounds(world, a, b)",),
    "roundjudge": ("rounds_right(world, a, b, rounds)",),
    "tracks": ("tracks(world, a, b)",),
    "betweens": ("between(world, a, x, b)",),
    "countruns": ("least_runs(world, a, b)", "between_many(world, a, b)"),
    "prices": ("cost(world, a, b, prices)",),
    "forks": ("forks(world, a, b, c)",),
    "meets": ("meets(world, a, b, c)", "gathering(world, a, b, c)"),
    "pegs": ("with_pegs(world, places)", "without_peg(world, place)", "with_table(world, table)"),
    "bars": ("bars(world, a, b)", "quiet(world, a, b)"),
    "pieces": ("pieces(world)", "piece_world(world, k)"),
    "glued": ("glued(one, two, x, y)",),
    "netmaps": ("is_net_map(net, other, places)", "pulled(standing, places)"),
    "shown": ("shown(world, a, place)",),
    "filled": ("filled(world, a, wants)",),
    "normal": ("normal(table, row)", "hand_run(table, row)"),
    "rowcounts": ("row_count(table, W, L)", "all_rows(table, p, L)", "rows_between(table, p, z, L)"),
    "evencounts": ("even_count(q, m, L)",),
    "classcounts": ("classes_between(table, p, z, L)",),
    "ranks": ("nth_row(table, W, L, n)", "rank_of(table, row)"),
    "lightest": ("lightest(table, W, L, weights)",),
    "weighed": ("weighed(table, W, L, weights)",),
    "treesizes": ("tree_size(world, a)",),
    "ringkeys": ("ring_key(table, ring)",),
    "ringcounts": ("straight_rings(table, n)", "ring_classes(table, n)"),
    "ringsizes": ("ring_class_size(table, ring)",),
    "ringleast": ("ring_least(table, a, b)",),
    "bestlinks": ("best_link(world, a, b, *, most=4)",),
    "freetrees": ("tree_come(world, a, b)",),
    "freelinks": ("free_come(world, a, b)", "free_link(world, a, b)"),
    "freeleast": ("free_least(world, a, b)",),
    "tablemaps": ("is_map(table, other, coats)", "image(row, coats)"),
    "covers": ("is_cover(table, other, coats)", "over(table, other, coats, net, standing, first)"),
    "never": ("never_paper(world, a, b)",),
    "neverjudge": ("never_right(world, a, b, paper)",),
    "rowtext": ("row_text(numbers)", "row_of(text)", "run_text(run)", "run_of(text)"),
    "worldtext": ("text_of_world(world)", "world_of(text)"),
}

CLASSES = {
    "tables": ("Table", ("__eq__",)), "nets": ("Net", ("__eq__",)), "worlds": ("World", ("__eq__",)),
    "floor": ("Floor", (
        "put(self, place, coat)", "peg(self, place)", "unpeg(self, place)", "undo(self)", "redo(self)", "now(self)",
        "world(self)", "record(self)", "trace(self)", "account(self)", "away(self)", "home(self)",
        "__init__(self, world, standing)")),
}
# What stands in the interface besides: the errors.
OTHERS = ("errors",)


class Interface(unittest.TestCase):

    def test_functions(self):
        for file, signatures in FUNCTIONS.items():
            module = importlib.import_module("betweencoats." + file)
            for signature in signatures:
                name = signature[:signature.index("(")]
                function = getattr(module, name)
                self.assertTrue(inspect.isfunction(function))
                self.assertEqual(name + str(inspect.signature(function)), signature)
                self.assertEqual(function.__module__, module.__name__)

    def test_classes(self):
        for file, (name, methods) in CLASSES.items():
            module = importlib.import_module("betweencoats." + file)
            thing = getattr(module, name)
            self.assertTrue(inspect.isclass(thing))
            self.assertEqual(thing.__module__, module.__name__)
            for signature in methods:
                method = vars(thing)[signature.partition("(")[0]]
                self.assertTrue(inspect.isfunction(method))
                if "(" in signature:
                    self.assertEqual(method.__name__ + str(inspect.signature(method)), signature)

    def test_each_heading_of_the_document_is_here(self):
        headings = "errors tables tableshapes evenlots nets netshapes apart worlds standings rests joins gaps cores lets " \
            "runs traces classes frozen links linkjudge lifts keys same work leastruns rounds roundjudge tracks betweens " \
            "countruns prices forks meets pegs bars pieces glued netmaps shown filled normal rowcounts evencounts " \
            "classcounts ranks lightest weighed treesizes ringkeys ringcounts ringsizes ringleast bestlinks freetrees " \
            "freelinks freeleast tablemaps covers never neverjudge rowtext worldtext floor"
        known = list(FUNCTIONS) + list(CLASSES) + list(OTHERS)
        self.assertEqual(sorted(headings.split()), sorted(set(known)))

    def test_the_package_holds_python_files_alone(self):
        names = [path.name for path in FOLDER.iterdir() if path.name != "__pycache__"]
        self.assertEqual([name for name in names if not name.endswith(".py")], [])
        self.assertIn("__init__.py", names)


if __name__ == "__main__":
    unittest.main()

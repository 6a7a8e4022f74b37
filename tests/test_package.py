"""The form of the package: its files, their sizes and characters, and where the interface is defined."""

import ast
import importlib
import pathlib
import unittest

import papersorliars

FOLDER = pathlib.Path(papersorliars.__file__).parent

# The functions of each file of the interface.
FUNCTIONS = {
    "stands": "check_stand denied stands_of",
    "changes": "narrowed renamed turned renamed_row turned_row fillings first_filling",
    "texts": "value_text read_value",
    "trees": "tree_fault tree_depth tree_leaves ways leaf_of narrowed_tree renamed_tree turned_tree crossed_tree",
    "depth": "least_depth depth_tree depth_liar depth_either depth_liar_fault joined_depth_liar",
    "depthliars": "play",
    "leaves": "least_leaves leaf_tree share_liar leaf_either",
    "shares": "share_fault least_pay pay_of cheapest_play",
    "linetrees": "line_tree_fault line_tree_leaves tree_lines lines_tree",
    "points": "branching least_points point_tree point_table point_either point_table_fault table_stands",
    "readings": "reading_fault reading_room best_reading",
    "units": "units",
    "lines": "lines_fault lines_width",
    "kept": "least_kept kept_lines keep_liar keep_either keep_liar_fault joined_keep_liar",
    "askers": "asking",
    "turning": "tidied widened narrow_lines",
    "narrowing": "narrowed_lines",
    "unrolling": "price unrolled flat_lines",
    "polys": "stand_poly wish_poly",
    "sums": "sum_fault sum_degree sum_paper least_sum sum_either tree_sum",
    "designs": "design design_fault design_liar joined_design",
    "rooms": "closed_room",
    "steps": "step_polys steps_fault step_paper least_steps steps_either",
    "tellers": "tellers tellers_fault teller_design",
    "stepping": "sum_steps line_steps",
    "chances": "chance_either chances least_chance chances_fault",
    "weights": "spread weights weights_fault",
    "mixing": "tree_weights sum_weights line_weights chances_keep chances_design cut added_chances chances_after "
              "filling_chances joined_chances",
    "webs": "web_book",
    "halvings": "plan_fault plan_measure least_measure halving",
    "refuges": "refuge refuge_fault",
    "webpapers": "plan_lines refuge_liar web_sum web_either",
    "families": "chain chain_tree chain_lines chain_alone chain_keep full full_tree full_lines full_chances",
    "seven": "least either measures account paper_fault liar_fault",
    "arrows": "carried_paper carried_liar",
    "reports": "report",
}

# The classes, with the methods and properties that the interface lists for them.
CLASSES = {
    ("books", "Book"): "__init__ read text breaks widest __iter__ __contains__ __eq__ __or__ __add__ __mul__",
    ("players", "Liar"): "__init__ check_free hold broken",
    ("depthliars", "DepthLiar"): "__init__ __call__",
    ("pointliars", "PointLiar"): "__init__ __call__",
    ("keepliars", "KeepLiar"): "__init__ __call__ forget",
    ("askers", "LineAsker"): "__init__ question hear",
    ("polys", "Poly"): "__init__ degree number __call__ __iter__ __contains__ __add__ __sub__ __mul__ __neg__ __eq__",
    ("webs", "Web"): "__init__ MOST_PLACES MOST_TIES __eq__ __iter__ odd rim parts moved odd_parts",
    ("refuges", "Runner"): "__init__ __call__ let_go",
    ("desk", "Desk"): "__init__ __getitem__ __setitem__ __contains__ __iter__ over drop add_wish take_wish narrow undo "
                      "picture attempt choose ask replay",
}


class Package(unittest.TestCase):

    def files(self):
        return sorted(FOLDER.rglob("*.py"))

    def test_sizes_and_characters(self):
        for file in self.files():
            lines = file.read_text(encoding="utf-8").splitlines()
            self.assertLessEqual(len(lines), 399, file)
            for at, line in enumerate(lines, 1):
                self.assertLessEqual(len(line), 120, (file, at))
                self.assertTrue(all(" " <= sign <= "~" for sign in line), (file, at))

    def test_functions_have_at_most_forty_lines(self):
        for file in self.files():
            for node in ast.walk(ast.parse(file.read_text(encoding="utf-8"))):
                if isinstance(node, ast.FunctionDef):
                    self.assertLessEqual(node.end_lineno - node.lineno + 1, 40, (file, node.name))

    def test_imports_are_those_of_the_package_and_of_the_allowed_library(self):
        for file in self.files():
            for node in ast.walk(ast.parse(file.read_text(encoding="utf-8"))):
                self.assertNotIsInstance(node, ast.Import, file)
                if isinstance(node, ast.ImportFrom):
                    self.assertEqual(node.level, 0, file)
                    allowed = node.module in ("heapq", "math", "itertools", "collections", "__future__")
                    self.assertTrue(allowed or node.module.startswith("papersorliars."), (file, node.module))

    def test_the_functions_stand_in_their_files(self):
        for name, words in FUNCTIONS.items():
            module = importlib.import_module("papersorliars." + name)
            for word in words.split():
                self.assertEqual(getattr(module, word).__module__, module.__name__, word)

    def test_the_classes_stand_in_their_files_and_have_their_methods_themselves(self):
        for (name, word), members in CLASSES.items():
            module = importlib.import_module("papersorliars." + name)
            found = getattr(module, word)
            self.assertEqual(found.__module__, module.__name__, word)
            for member in members.split():
                self.assertIn(member, vars(found), word)
        self.assertTrue(isinstance(vars(papersorliars.books.Book)["widest"], property))
        self.assertTrue(isinstance(vars(papersorliars.players.Liar)["broken"], property))
        self.assertTrue(isinstance(vars(papersorliars.askers.LineAsker)["question"], property))
        self.assertTrue(isinstance(vars(papersorliars.polys.Poly)["degree"], property))
        self.assertTrue(isinstance(vars(papersorliars.webs.Web)["odd"], property))
        self.assertTrue(isinstance(vars(papersorliars.desk.Desk)["over"], property))
        self.assertTrue(isinstance(vars(papersorliars.desk.Desk)["replay"], classmethod))


if __name__ == "__main__":
    unittest.main()

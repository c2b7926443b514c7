"""What the interface lists exists where it is listed."""

import ast
import importlib
import inspect
import pathlib
import unittest

FOLDER = pathlib.Path(__file__).resolve().parent.parent / "pressalike"

FUNCTIONS = {
    "outlines": {"outline_of": "letter thing", "each_side": "ring", "winding": "rings x y"},
    "inks": {
        "ink_of": "rings", "leftmost": "ink row", "rightmost": "ink row", "step_of": "ink", "blanks": "left right row gap",
    },
    "words": {
        "is_word": "face word", "columns": "face word", "width": "face word", "stamps": "face word",
        "words_up_to": "face most least",
    },
    "wordkinds": {
        "told_width": "cap width", "word_states": "face cap", "word_kinds": "face cap", "joint_states": "one two cap",
        "joint_kinds": "one two cap", "least_unlike": "one two",
    },
    "treetext": {"write_tree": "piece", "read_tree": "text"},
    "leasttrees": {"least": "grammar kind marks", "front": "grammar kind room", "rest": "grammar kind room"},
    "grammartext": {"write_grammar": "grammar", "read_grammar": "text"},
    "sheettext": {"write_rule": "rule", "write_sheet": "sheet", "read_sheet": "text"},
    "contexts": {"dead_rules": "style grammar", "rule_shown": "style grammar place", "agree": "one two grammar"},
    "fill": {"fill_widths": "measure widths", "fill": "face measure words", "line_count": "face measure words"},
    "pens": {"pen_after": "measure pen width", "text_ends": "face measure most"},
    "standings": {
        "standings": "length", "count_class": "length count", "after_block": "length standing count space kept page",
        "all_after": "length standing space kept page",
    },
    "plainpages": {"plain_pages": "length blocks"},
    "together": {
        "both_after": "length pair space kept page", "class_pairs": "length one measure_one two measure_two",
        "pairs_after": "length found one values_one two values_two", "text_pairs": "style one values_one two values_two",
        "text_after": "style standing values", "parting_blocks": "length one two",
    },
    "setter": {
        "block_settings": "style tree", "block_stamps": "style values words", "standing_before": "style tree", "print_tree": "style tree",
    },
    "drawing": {"draw_line": "line", "draw_page": "printed number length", "draw_print": "printed length"},
    "joint": {
        "joint_begin": "", "joint_page": "joint first second", "joint_block": "lengths joint count first second", "alike_at_end": "joint",
    },
    "jointtext": {"joint_texts": "one two joint first second"},
    "joinedrows": {"summaries": "one two grammar"},
    "verdict": {"first_unlike": "one two tree", "joint_run": "one two tree", "compare_styles": "one two grammar"},
    "tablecheck": {"flaw": "one two grammar rows"},
    "singles": {"single_ends": "style grammar kind marks context standing"},
    "pairs": {"pair_ends": "style grammar kind marks context one two"},
    "ownparts": {
        "own_ends": "style grammar kind new old", "edit_ends": "style grammar deed kind marks context standing",
    },
    "loops": {"loop_samples": "style grammar deed many"},
    "reach": {"reach": "style grammar deed"},
    "ranks": {"ranks_hold": "style grammar deed table"},
    "seams": {"gates_of": "gates tree", "cut": "gates tree"},
    "runs": {"job_between": "gates tree first stop", "set_job": "style job", "joined": "settings"},
    "changes": {"checked_changes": "style changes", "changed": "style changes back", "all_lots": "count"},
}
CLASSES = {
    "faces": {"Face": {"__init__": "outlines apart", "letters": "", "ink": "letter", "step": "letter", "gap": "left right",
                       "bar": "left right", "within": "other", "__eq__": "other"}},
    "pieces": {
        "Piece": {"__init__": "kind marks", "cost": "", "piece_at": "path", "each_piece": "", "each_block": ""},
        "Inner": {"__init__": "kind marks parts", "is_block": "", "__len__": "", "__iter__": "", "__eq__": "other"},
        "Block": {"__init__": "kind marks words", "is_block": "", "__len__": "", "__eq__": "other"},
    },
    "grammar": {"Grammar": {
        "__init__": "root rows", "has_blocks": "kind", "rooms": "kind", "follow": "kind room label",
        "is_final": "kind room", "steps": "kind room", "judge": "tree", "fits": "tree", "endless": "", "trimmed": "",
        "__eq__": "other",
    }},
    "edits": {
        "Edit": {"__init__": "path", "apply": "tree", "inverse": "tree", "own": "tree", "__eq__": "other"},
        "Words": {"__init__": "path words", "apply": "tree", "inverse": "tree", "own": "tree"},
        "Marks": {"__init__": "path marks", "apply": "tree", "inverse": "tree", "own": "tree"},
        "Put": {"__init__": "path piece", "apply": "tree", "inverse": "tree", "own": "tree"},
        "Drop": {"apply": "tree", "inverse": "tree", "own": "tree"},
    },
    "rules": {"Rule": {
        "__init__": "weight kind mark parent above elder sets", "made": "weight pattern settings", "setting": "name",
        "__call__": "kind marks context", "__eq__": "other",
    }},
    "sheets": {"Sheet": {
        "__init__": "rules", "__len__": "", "__iter__": "", "__eq__": "other", "winner": "kind marks context name",
        "values_of": "kind marks context", "below": "kind marks context elder", "with_rule": "rule", "without": "place",
    }},
    "styles": {"Style": {
        "__init__": "sheet faces length measure", "face": "value", "root_context": "", "with_sheet": "sheet", "__eq__": "other",
    }},
    "contexts": {"Entries": {"__init__": "grammar styles", "__iter__": "", "__len__": "", "shown": "entry"}},
    "pens": {"LineGain": {
        "__init__": "one measure_one two measure_two", "is_endless": "", "ranks": "", "sample": "number",
    }},
    "pages": {"Page": {
        "__init__": "length", "resumed": "length standing", "begin": "", "block": "count space kept page", "now": "", "pending": "",
        "settled": "", "finish": "", "went_over": "", "__len__": "",
    }},
    "prints": {"Print": {
        "__init__": "blocks", "pages": "", "lines_of": "number", "unlike": "other", "__len__": "", "__iter__": "", "__eq__": "other",
    }},
    "keptbook": {"Redo": {}, "KeptBook": {
        "__init__": "style tree", "printed": "", "entries": "", "undoable": "", "change": "edit", "change_all": "edits", "undo": "",
    }},
    "verdict": {"Verdict": {"table": ""}},
    "reach": {"Reach": {"is_endless": "", "sample": "number", "ranks": ""}},
    "gates": {"Gates": {
        "__init__": "style grammar", "__iter__": "", "__len__": "", "arrivals": "gate", "shown": "gate standing", "seam": "gate",
    }},
    "runs": {"Job": {"__init__": "ticket standing rows"}, "Setting": {"__init__": "ticket blocks"}},
    "desks": {"Desks": {
        "__init__": "gates tree", "runs": "", "job": "ticket", "deliver": "settings", "missing": "", "revise": "edit", "printed": "",
    }},
    "lots": {
        "Lots": {
            "__init__": "style changes grammar", "is_monotone": "", "fewest": "", "is_good": "lot", "witness": "lot", "mended": "lot",
        },
        "AlikeLots": {"__init__": "style changes grammar"},
        "ReachLots": {"__init__": "style changes grammar deed most", "reach_of": "lot"},
    },
    "housematrix": {"House": {
        "__init__": "styles grammar", "class_of": "place", "unlike": "first second", "recognised": "prints",
    }},
}
ATTRIBUTES = {
    "verdict": {"Verdict": "is_alike manuscript place"}, "reach": {"Reach": "deed most tree edit"}, "gates": {"Gates": "style grammar"},
    "runs": {"Job": "ticket standing rows", "Setting": "ticket blocks"}, "desks": {"Desks": "tree"},
    "lots": {"Lots": "good least turns"}, "housematrix": {"House": "classes specimens"},
}
GENERATORS = {"outlines": ("each_side",), "words": ("words_up_to",), "loops": ("loop_samples",), "changes": ("all_lots",)}
CONSTANTS = {"pieces": ("KINDS", "MARKS"), "rules": ("VALUE_NAMES",)}


def names_of(call):
    return [name for name in inspect.signature(call).parameters if name != "self"]


class TestInterface(unittest.TestCase):
    def defined(self, stem):
        body = ast.parse((FOLDER / (stem + ".py")).read_text()).body
        return {node.name: node for node in body if isinstance(node, (ast.FunctionDef, ast.ClassDef))}

    def test_functions(self):
        for stem, functions in FUNCTIONS.items():
            module = importlib.import_module("pressalike." + stem)
            for name, parameters in functions.items():
                self.assertIn(name, self.defined(stem))
                self.assertEqual(names_of(getattr(module, name)), parameters.split(), name)

    def test_classes(self):
        for stem, classes in CLASSES.items():
            module = importlib.import_module("pressalike." + stem)
            for name, methods in classes.items():
                body = self.defined(stem)[name].body
                own = {node.name for node in body if isinstance(node, ast.FunctionDef)}
                for method, parameters in methods.items():
                    self.assertIn(method, own, name)
                    call = inspect.getattr_static(getattr(module, name), method)
                    if isinstance(call, property):
                        call = call.fget
                    elif isinstance(call, (classmethod, staticmethod)):
                        call = getattr(getattr(module, name), method)
                    self.assertEqual(names_of(call), parameters.split(), (name, method))

    def test_attributes(self):
        for stem, classes in ATTRIBUTES.items():
            for name, attributes in classes.items():
                made = [node for node in self.defined(stem)[name].body if getattr(node, "name", "") == "__init__"][0]
                stored = {node.attr for node in ast.walk(made) if isinstance(node, ast.Attribute) and isinstance(node.ctx, ast.Store)}
                self.assertLessEqual(set(attributes.split()), stored, name)

    def test_generators(self):
        for stem, names in GENERATORS.items():
            for name in names:
                self.assertTrue(inspect.isgeneratorfunction(getattr(importlib.import_module("pressalike." + stem), name)))

    def test_bases(self):
        lots = importlib.import_module("pressalike.lots")
        self.assertTrue(issubclass(lots.AlikeLots, lots.Lots) and issubclass(lots.ReachLots, lots.Lots))

    def test_constants(self):
        for stem, names in CONSTANTS.items():
            for name in names:
                self.assertIsInstance(getattr(importlib.import_module("pressalike." + stem), name), tuple)

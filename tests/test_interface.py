"""The interface: each name in its file, with its arguments by the names that the document tells."""

import importlib
import inspect
import os
import unittest

BOUNDS = {
    "MAX_PLACES": 12, "MAX_BASE": 1000000, "MAX_READS": 40, "MAX_READINGS": 12, "MAX_CELLS": 8, "MAX_SIGN": 199,
    "MAX_STATES": 200, "MAX_SEARCH": 24, "MAX_CLOCK": 60, "MAX_SIZE": 10, "MAX_VALUE": 1000000000000,
    "MAX_NODES": 60, "MAX_LOOKS": 8, "MAX_EDITS": 60, "MAX_LETTERS": 8,
}

HEADS = {
    "counters": (
        "counter_error(value)", "size_of(counter)", "weight_of(counter, place)", "digits_of(counter, number)",
        "value_of(counter, digits)", "lot_error(counter, value)", "sight_of(counter, lot, number)",
        "sight_error(counter, lot, value)",
    ),
    "countertexts": (
        "counter_text(counter)", "read_counter(value)", "value_text(counter, number)", "read_value(counter, value)",
    ),
    "going": (
        "ahead_from(counter, lot, sight, start)", "back_to(counter, lot, sight, start)",
        "how_many(counter, lot, sight, limit)", "nth_of(counter, lot, sight, number)",
    ),
    "rows": ("row_error(counter, value)", "word_error(counter, row, value)", "run_error(counter, row, value)"),
    "runs": (
        "word_of(counter, row, run)", "stuck_at(counter, row, word)", "least_run(counter, row, word)",
        "greatest_run(counter, row, word)",
    ),
    "sureness": (
        "window_of(counter, row, word)", "sure_of(counter, row, word)", "two_apart(counter, row, word)",
        "stood_at(counter, row, word, number)",
    ),
    "telling": ("is_full(counter, row)", "is_agreed(counter, row, word)", "told_by(counter, row, word)"),
    "ladders": ("ladder_error(counter, row, way, value)", "ladder_of(counter, row, way)"),
    "excess": (
        "missed_places(counter, row, way)", "worst_beyond(counter, row)", "worst_short(counter, row)",
        "beyond_run(counter, row)", "short_run(counter, row)",
    ),
    "always": (
        "always_sure(counter, row)", "lost_word(counter, row)", "settled_value(counter, first, second)",
    ),
    "mending": (
        "puts_error(counter, row, value)", "put_in(counter, row, puts)", "fewest_puts(counter, row, want)",
        "puts_for(counter, row, want)",
    ),
    "keeping": (
        "fewest_kept(counter, row, want)", "part_for(counter, row, want)", "fewest_lots(counter, most, want)",
        "lots_for(counter, most, want)",
    ),
    "readings": (
        "log_error(counter, value)", "joined_log(counter, log)", "log_windows(counter, log)",
        "log_sures(counter, log)", "now_of(counter, log)", "most_gone(counter, log, first, second)",
    ),
    "tables": ("table_error(value)", "looks_error(table, value)"),
    "tableruns": (
        "states_error(table, speed, looks, value)", "table_word(table, looks, states)",
        "least_states(table, speed, looks, word)", "greatest_states(table, speed, looks, word)",
        "table_sure(table, speed, looks, word)", "table_apart(table, speed, looks, word)",
    ),
    "lostwords": ("lost_in(table, speed, looks)",),
    "carrying": ("counter_table(counter)", "carried_table(counter, way, elder)"),
    "clocks": (
        "sizes_error(value)", "clock_error(sizes, value)", "cut_bound(sizes)", "torn_word(sizes, clock)",
        "clock_sure(sizes, clock, word)",
    ),
    "nesting": ("nested_clock(sizes)",),
    "readers": (
        "reader_error(table, value)", "paths_of(reader)", "wrong_path(table, speed, reader)",
        "filled_reader(table, speed, reader)",
    ),
    "lives": ("tells_in(table, reader, life)",),
    "benches": ("bench_behind(counter, value)",),
    "faces": (
        "face_error(value)", "face_text(face)", "read_face(value)", "row_text(face, row)", "read_row(face, value)",
        "look_text(face, lot, sight)", "read_look(face, value)",
    ),
}

# For each class its file, what it is made with, its methods, and what is there to be read of an object.
CLASSES = {
    "Bench": (
        "benches", "(counter)",
        ("look(self, lot, sight)", "done(self)", "undo(self)", "redo(self)", "copy(self)", "windows(self)",
         "sures(self)", "now(self)", "told(self, reading)", "beyond(self, reading)", "short(self, reading)"),
        ("counter", "log", "opened", "edits", "version"),
    ),
    "Shell": ("shells", "()", ("say(self, line)",), ()),
}


class InterfaceTest(unittest.TestCase):

    def test_bounds(self):
        module = importlib.import_module("tornreads.bounds")
        for name, bound in BOUNDS.items():
            with self.subTest(name=name):
                self.assertIs(type(getattr(module, name)), int)
                self.assertEqual(getattr(module, name), bound)

    def test_heads(self):
        for file, heads in HEADS.items():
            module = importlib.import_module("tornreads." + file)
            for head in heads:
                with self.subTest(file=file, head=head):
                    name = head[:head.index("(")]
                    function = getattr(module, name)
                    self.assertTrue(inspect.isfunction(function))
                    self.assertEqual(function.__name__, name)
                    self.assertEqual(function.__module__, "tornreads." + file)
                    self.assertEqual(name + str(inspect.signature(function)), head)

    def test_classes(self):
        for name, (file, head, methods, fields) in CLASSES.items():
            kind = getattr(importlib.import_module("tornreads." + file), name)
            self.assertTrue(inspect.isclass(kind))
            self.assertEqual((kind.__name__, kind.__module__), (name, "tornreads." + file))
            self.assertEqual(str(inspect.signature(kind)), head)
            for method in methods:
                with self.subTest(name=name, method=method):
                    function = vars(kind)[method[:method.index("(")]]
                    self.assertTrue(inspect.isfunction(function))
                    self.assertEqual(function.__name__ + str(inspect.signature(function)), method)
            made = kind((2, 3)) if head != "()" else kind()
            for field in fields:
                self.assertIn(field, vars(made))

    def test_nothing_else_stands_in_the_package(self):
        package = importlib.import_module("tornreads")
        files = sorted(os.listdir(os.path.dirname(package.__file__)))
        due = [*HEADS, *[told[0] for told in CLASSES.values()], "bounds", "errors", "kinds", "__init__"]
        self.assertEqual([file for file in files if file != "__pycache__"], sorted({name + ".py" for name in due}))


if __name__ == "__main__":
    unittest.main()

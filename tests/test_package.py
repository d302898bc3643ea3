import ast
import importlib
import inspect
import pathlib
import unittest

PACKAGE = pathlib.Path(__file__).resolve().parent.parent / "looplearn"

# The interface: what stands in which file.
INTERFACE = {
    "errors": [
        "LearnError", "NoKnown", "NoText", "NoPairs", "NoLoop", "NoCoder", "NoCount", "NotRound", "NoTree",
        "NoSign", "NotLike", "NoPlace", "NoCounts", "NoWord", "Nothing", "NoLog", "NoRow",
    ],
    "words": [
        "is_known(thing)", "cut(known, text)", "known_behind(known, text)", "pairs(known, text)",
        "read_pairs(known, row)",
    ],
    "loops": ["is_loop(thing)", "is_plain(loop)", "root(loop)", "turned(loop, by)", "alike_for(one, other)"],
    "coders": [
        "is_coder(thing)", "step(coder)", "behind(coder, many)", "words_of(coder, many)", "coder_on(loop, known)",
    ],
    "rounds": ["in_round(coder)", "ahead(coder)", "round_of(coder)", "ring(coder)", "is_ring(coder, thing)"],
    "backs": ["befores(coder)", "before(coder)"],
    "trees": ["tree_of(coder)", "is_tree(p, thing)", "coder_of(p, tree)", "all_trees(p)"],
    "signs": [
        "sign_of(coder)", "tree_by(p, sign)", "is_sign(p, thing)", "one_round(coder, other)",
        "steps_between(coder, other)",
    ],
    "far": [
        "word_at(coder, number)", "letters_by(coder, many)", "number_at(coder, letter)",
        "learnt_by(coder, place, length)", "longest_by(coder, many)", "pair_at(coder, number)",
    ],
    "anyloops": [
        "lengths_on(loop, known)", "is_grown(loop, known)", "grown_by(loop, known)", "coder_then(loop, known)",
        "word_on(loop, known, number)",
    ],
    "teaching": ["taught(coder, counts)", "least_teaching(coder, sign)"],
    "learners": ["Learner(loop, known, *, first=0)", "learner_of(loop, known, log, *, first=0)"],
    "texts": ["show_coder(coder)", "read_coder(text)"],
    "desk": ["Desk()"],
}

# The methods of a class, each in the class itself.
METHODS = {
    ("learners", "Learner"): [
        "learn(self, n)", "teach(self, word)", "back(self)", "coder(self)", "count(self)", "word(self, n)",
        "knows(self, word)", "log(self)", "__len__(self)", "__eq__(self, other)",
    ],
    ("desk", "Desk"): ["say(self, row)"],
}


def package_files():
    return [path for path in sorted(PACKAGE.rglob("*")) if "__pycache__" not in path.parts]


class TestInterface(unittest.TestCase):
    def test_each_name_is_defined_in_its_file(self):
        for name, listed in INTERFACE.items():
            module = importlib.import_module("looplearn." + name)
            tree = ast.parse((PACKAGE / (name + ".py")).read_text())
            defined = [row.name for row in tree.body if isinstance(row, (ast.FunctionDef, ast.ClassDef))]
            for entry in listed:
                word, bracket, _ = entry.partition("(")
                with self.subTest(name=name, word=word):
                    self.assertTrue(callable(getattr(module, word)))
                    self.assertEqual(defined.count(word), 1)
                    if bracket:
                        self.assertEqual(word + str(inspect.signature(getattr(module, word))), entry)

    def test_each_method_is_defined_in_its_class(self):
        for (name, word), listed in METHODS.items():
            own = vars(getattr(importlib.import_module("looplearn." + name), word))
            for entry in listed:
                method, _, _ = entry.partition("(")
                with self.subTest(word=word, method=method):
                    self.assertEqual(method + str(inspect.signature(own[method])), entry)


class TestForm(unittest.TestCase):
    """The plainest of the rules that the files of the package keep to."""

    def test_the_folder_holds_python_files_only(self):
        self.assertTrue((PACKAGE / "__init__.py").is_file())
        for path in package_files():
            self.assertEqual(path.suffix, ".py", path)

    def test_signs_and_sizes(self):
        for path in package_files():
            text = path.read_bytes().decode("ascii")
            self.assertTrue(all(sign == "\n" or " " <= sign <= "~" for sign in text), path)
            self.assertLessEqual(len(text.splitlines()), 399, path)
            self.assertLessEqual(max(map(len, text.splitlines())), 120, path)

    def test_functions_are_short(self):
        for path in package_files():
            for row in ast.walk(ast.parse(path.read_text())):
                if isinstance(row, ast.FunctionDef):
                    self.assertLessEqual(row.end_lineno - row.lineno + 1, 40, (path, row.name))

    def test_imports_are_from_the_package(self):
        for path in package_files():
            for row in ast.walk(ast.parse(path.read_text())):
                self.assertNotIsInstance(row, ast.Import, path)
                if isinstance(row, ast.ImportFrom):
                    self.assertTrue(row.module.startswith("looplearn."), (path, row.module))
                    self.assertEqual(row.level, 0, path)
                    self.assertTrue(all(alias.asname is None for alias in row.names), path)


if __name__ == "__main__":
    unittest.main()

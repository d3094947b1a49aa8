"""Tests of points 14.1 to 14.6, of 0.5 and 0.6 for studios, and of the example of everyfield/studio.py."""

import random
import unittest

from plain import raised

from everyfield.chars import Chars
from everyfield.drawings import Drawing
from everyfield.studio import Studio

ROWS = ["point A 1 0 0", "point B 0 1 0", "point C 1 3 0", "point D 2 0 2"]


def studio_of(*rows):
    studio = Studio()
    for row in rows:
        studio.add(row)
    return studio


def state(studio):
    return studio.text(), studio.seen(), studio.fits()


def rightly(rows, sentence, holds):
    """The set of the characteristics in which a sentence was seen rightly, for a drawing of these rows."""
    found = Drawing("\n".join(rows)).always(sentence)
    return found if holds else ~found


class Model:
    """What a studio must say, worked out anew from all of its deeds."""

    def __init__(self):
        self.rows, self.told, self.deeds = [], [], []

    def possible(self, rows):
        return Drawing("\n".join(rows)).possible() if rows else Chars.every()

    def left(self, rows, told):
        found = self.possible(rows)
        for _, _, chars in told:
            found = found & chars
        return found

    def add(self, row):
        """The error of an added line, or None."""
        rows = [*self.rows, row]
        if raised(Drawing, "\n".join(rows)) or "\n" in row:
            return "BadStep", {"at": len(self.rows)}
        if not self.left(rows, self.told):
            return "Contradiction", {"clash": []}
        self.deeds.append((self.rows, self.told))
        self.rows = rows
        return None

    def see(self, sentence, holds):
        told = [*self.told, (sentence, holds, rightly(self.rows, sentence, holds))]
        if not self.left(self.rows, told):
            left = list(range(len(told)))
            for at in range(len(told)):
                if not self.left(self.rows, [told[k] for k in left if k != at]):
                    left.remove(at)
            return "Contradiction", {"clash": left}
        self.deeds.append((self.rows, self.told))
        self.told = told
        return None

    def undo(self):
        if not self.deeds:
            return "NothingToUndo", {}
        self.rows, self.told = self.deeds.pop()
        return None

    def state(self):
        return "\n".join(self.rows), [(sentence, holds) for sentence, holds, _ in self.told]


class TestAdd(unittest.TestCase):
    def test_without_lines(self):
        self.assertEqual(state(Studio()), ("", [], Chars.every()))

    def test_values(self):
        studio = Studio()
        for at, row in enumerate(ROWS):
            self.assertIsNone(studio.add(row))
            self.assertEqual(studio.text(), "\n".join(ROWS[:at + 1]))
        self.assertEqual(str(studio.fits()), "all but 2")
        self.assertIs(type(studio.fits()), Chars)

    def test_no_lines_of_a_text(self):
        for rows in ([], ROWS[:1], ROWS):
            studio = studio_of(*rows)
            before = state(studio)
            for row in ("", " ", "point", "point X 1 2", "free A1", "join x A Q", "point X 1 2 1001", "same A B", "free X ",
                        "free X\n", "\n", "\nfree X", "free X\nfree Y", "point X 1 2 3\n", "point X 0 0 1\njoin x X X"):
                self.assertEqual(raised(studio.add, row), ("BadStep", {"at": len(rows)}), row)
            self.assertEqual(state(studio), before)
        self.assertEqual(raised(studio_of(*ROWS).add, "free A"), ("BadStep", {"at": 4}))

    def test_no_characteristic_left(self):
        studio = studio_of("point A 1 0 0")
        before = state(studio)
        self.assertEqual(raised(studio.add, "point B 0 0 0"), ("Contradiction", {"clash": []}))
        self.assertEqual(raised(studio.add, "join a A A"), ("Contradiction", {"clash": []}))
        self.assertEqual(state(studio), before)
        self.assertEqual(raised(Studio().add, "point A 0 0 0"), ("Contradiction", {"clash": []}))

    def test_lines_that_leave_nothing_of_what_was_seen(self):
        studio = studio_of("point A 1 1 0", "point B 1 4 0")
        studio.see("same A B", True)
        self.assertEqual(str(studio.fits()), "primes 3")
        before = state(studio)
        self.assertEqual(raised(studio.add, "point C 3 0 6"), ("Contradiction", {"clash": []}))
        self.assertEqual(raised(studio.add, "join a A B"), ("Contradiction", {"clash": []}))
        self.assertEqual(raised(studio.add, "join a A C"), ("BadStep", {"at": 2}))
        self.assertEqual(state(studio), before)
        self.assertIsNone(studio.add("point C 2 0 6"))


class TestSee(unittest.TestCase):
    def test_values(self):
        studio = studio_of(*ROWS)
        self.assertIsNone(studio.see("same A C", False))
        self.assertEqual(str(studio.fits()), "all but 2 3")
        self.assertIsNone(studio.see("line A B C", True))
        self.assertEqual(str(studio.fits()), "all but 2 3")
        self.assertEqual(studio.seen(), [("same A C", False), ("line A B C", True)])
        self.assertEqual({type(item) for item in studio.seen()}, {tuple})

    def test_sentences_of_the_wrong_form(self):
        studio = studio_of("point A 1 0 0", "free B", "join a A B")
        before = state(studio)
        for sentence, at in [("", 0), ("Same A B", 0), ("same", 1), ("same A", 2), ("same A a", 2), ("line A B C", 3),
                             ("on A B", 2), ("on A a a", 3), ("through A", 1), ("same X B", 1)]:
            for holds in (True, False):
                self.assertEqual(raised(studio.see, sentence, holds), ("BadText", {"at": at}))
            self.assertEqual(raised(studio.asks, sentence), ("BadText", {"at": at}))
        self.assertEqual(state(studio), before)

    def test_without_lines(self):
        for studio in (Studio(), studio_of("free A")):
            if studio.text():
                studio.undo()
            for sentence in ("", "same A A", "same", "on", "line A B C"):
                self.assertEqual(raised(studio.see, sentence, True), ("BadText", {"at": 0}))
                self.assertEqual(raised(studio.see, sentence, False), ("BadText", {"at": 0}))
                self.assertEqual(raised(studio.asks, sentence), ("BadText", {"at": 0}))
            self.assertEqual(state(studio), ("", [], Chars.every()))

    def test_the_clash_of_several_sentences(self):
        studio = studio_of("point O 1 0 0", "point A 1 6 0", "point B 1 10 0", "point C 1 15 0", "point D 1 7 0")
        studio.see("same O D", False)
        studio.see("same O A", True)
        self.assertEqual(str(studio.fits()), "primes 2 3")
        studio.see("line O A B", True)
        studio.see("same O B", True)
        self.assertEqual(str(studio.fits()), "primes 2")
        before = state(studio)
        self.assertEqual(raised(studio.see, "same O C", True), ("Contradiction", {"clash": [1, 3, 4]}))
        self.assertEqual(raised(studio.see, "same O D", True), ("Contradiction", {"clash": [3, 4]}))
        self.assertEqual(raised(studio.see, "line O A B", False), ("Contradiction", {"clash": [4]}))
        self.assertEqual(raised(studio.see, "same O O", False), ("Contradiction", {"clash": [4]}))
        self.assertEqual(raised(studio.see, "same O A", False), ("Contradiction", {"clash": [1, 4]}))
        self.assertEqual(state(studio), before)

    def test_the_drawing_counts_in_a_clash(self):
        # Where 2 is 0 the drawing is not possible, so the new sentence clashes by itself.
        studio = studio_of("point A 1 0 0", "point B 1 2 0")
        studio.see("same A A", True)
        studio.add("join a A B")
        self.assertEqual(raised(studio.see, "same A B", True), ("Contradiction", {"clash": [1]}))

    def test_the_drawing_as_it_was_then(self):
        # In the characteristic 3, B and C fall together; when they were seen, X was not yet made.
        studio = studio_of("point A 1 0 0", "point B 1 3 0")
        studio.see("same A B", False)
        studio.see("line A B B", True)
        self.assertEqual(str(studio.fits()), "all but 3")
        studio.add("point C 0 2 0")
        self.assertEqual(str(studio.fits()), "all but 2 3")
        studio.see("line A B C", True)
        studio.add("free X")
        self.assertEqual(str(studio.fits()), "all but 2 3")
        self.assertEqual(studio.seen(), [("same A B", False), ("line A B B", True), ("line A B C", True)])

    def test_not_true_for_all_choices(self):
        studio = studio_of("free A", "free B")
        studio.see("same A B", False)
        self.assertEqual(str(studio.fits()), "all but")
        self.assertEqual(raised(studio.see, "same A B", True), ("Contradiction", {"clash": [1]}))
        self.assertEqual(raised(studio.see, "same A A", False), ("Contradiction", {"clash": [1]}))


class TestAsks(unittest.TestCase):
    def test_values(self):
        studio = studio_of(*ROWS)
        before = state(studio)
        self.assertEqual(studio.asks("line A B C"), "sure")
        self.assertEqual(studio.asks("same A C"), "open")
        self.assertEqual(studio.asks("same A B"), "never")
        self.assertEqual(studio.asks("line A B D"), "never")
        self.assertEqual(state(studio), before)
        studio.see("same A C", True)
        self.assertEqual(studio.asks("same A C"), "sure")
        studio.undo()
        studio.see("same A C", False)
        self.assertEqual(studio.asks("same A C"), "never")

    def test_an_answer_may_clash_with_nothing(self):
        studio = studio_of("point A 1 0 0", "point B 1 6 0", "point C 1 0 6")
        self.assertEqual([studio.asks(s) for s in ("same A B", "same B C", "line A B C", "same A A")],
                         ["open", "open", "open", "sure"])


class TestUndo(unittest.TestCase):
    def test_each_kind_of_deed(self):
        studio = studio_of(*ROWS[:3])
        states = [state(studio)]
        for deed in (lambda: studio.see("same A C", False), lambda: studio.add(ROWS[3]), lambda: studio.add("free X"),
                     lambda: studio.see("line A B X", False), lambda: studio.see("line A B C", True)):
            deed()
            states.append(state(studio))
        for expected in states[-2::-1]:
            self.assertIsNone(studio.undo())
            self.assertEqual(state(studio), expected)
        for _ in range(3):
            studio.undo()
        self.assertEqual(state(studio), ("", [], Chars.every()))
        self.assertEqual(raised(studio.undo), ("NothingToUndo", {}))
        self.assertEqual(raised(Studio().undo), ("NothingToUndo", {}))
        self.assertIsNone(studio.add("free A"))
        self.assertEqual(studio.text(), "free A")

    def test_a_refusal_is_no_deed(self):
        studio = studio_of("point A 1 0 0")
        raised(studio.add, "point A 1 1 1")
        raised(studio.add, "point B 0 0 0")
        raised(studio.see, "same A A", False)
        raised(studio.see, "same A B", False)
        studio.asks("same A A")
        studio.undo()
        self.assertEqual(raised(studio.undo), ("NothingToUndo", {}))

    def test_names_are_free_again(self):
        studio = studio_of("point A 1 0 0", "free B")
        studio.undo()
        self.assertIsNone(studio.add("point B 0 0 1"))
        self.assertEqual(studio.text(), "point A 1 0 0\npoint B 0 0 1")
        self.assertEqual(studio.asks("same A B"), "never")


class TestDeeds(unittest.TestCase):
    def test_the_lists_are_new_ones(self):
        studio = studio_of(*ROWS)
        studio.see("same A B", False)
        studio.seen().clear()
        studio.seen().append(("same A A", True))
        self.assertEqual(studio.seen(), [("same A B", False)])

    def test_studios_are_apart(self):
        first, second = Studio(), Studio()
        first.add("free A")
        first.see("same A A", True)
        self.assertEqual(state(second), ("", [], Chars.every()))

    def test_by_the_model(self):
        chance = random.Random(1)
        seen = {}
        for _ in range(120):
            studio, model = Studio(), Model()
            for _ in range(20):
                expected, found = self.any_deed(chance, studio, model)
                self.assertEqual(found, expected)
                self.assertEqual((studio.text(), studio.seen()), model.state())
                self.assertEqual(studio.fits(), model.left(model.rows, model.told))
                what = str(expected and (expected[0], min(2, len(expected[1].get("clash", [])))))
                seen[what] = seen.get(what, 0) + 1
        for what in ("None", "('BadStep', 0)", "('Contradiction', 0)", "('Contradiction', 1)", "('Contradiction', 2)",
                     "('NothingToUndo', 0)"):
            self.assertGreater(seen.get(what, 0), 4, what)

    def any_deed(self, chance, studio, model):
        names = [row.split(" ")[1] for row in model.rows]
        points = [row.split(" ")[1] for row in model.rows if not row.startswith("join")]
        deed = chance.choice(["add", "add", "see", "see", "see", "undo"])
        if deed == "undo":
            return model.undo(), raised(studio.undo)
        if deed == "add" or not names:
            name = chance.choice("ABCDEFG")
            row = chance.choice([f"point {name} 1 {chance.choice([0, 2, 6, 10, 15, 21, 30, 36])} 0"] * 4 + [
                f"point {name} " + " ".join(str(chance.choice([0, 1, 1, 2, 3, 6, 10, 15])) for _ in range(3)),
                f"free {name}", f"join {name} " + " ".join(chance.choice(points or ["A"]) for _ in range(2)),
            ])
            return model.add(row), raised(studio.add, row)
        sentence = f"same {chance.choice(names)} {chance.choice(points or names)}"
        if chance.random() < 0.3:
            sentence = " ".join(["line"] + [chance.choice(points or names) for _ in range(3)])
        holds = chance.random() < 0.6
        if raised(Drawing("\n".join(model.rows)).always, sentence):
            return raised(Drawing("\n".join(model.rows)).always, sentence), raised(studio.see, sentence, holds)
        return model.see(sentence, holds), raised(studio.see, sentence, holds)


class TestExample(unittest.TestCase):
    def test_it(self):
        studio = studio_of("point A 1 0 0", "point B 0 1 0", "point C 1 3 0", "point D 2 0 2")
        studio.see("same A C", False)
        self.assertEqual([str(studio.fits()), studio.asks("line A B C"), studio.asks("same B C"), len(studio.seen())],
                         ["all but 2 3", "sure", "never", 1])


if __name__ == "__main__":
    unittest.main()

"""A desk, its commands, answers, states and papers: [9b5], [9b6], ANEW of [4]."""

import unittest
from itertools import product
from random import Random

import cord_model
import desk_model
import model
import ring_model
from neverfewer.cords import cords
from neverfewer.desk import Desk
from neverfewer.drawings import Drawing
from neverfewer.papers import is_decision
from neverfewer.spans import is_span_paper
from neverfewer.texts import print_drawing
from neverfewer.twists import is_turn_row
from neverfewer.webs import Web
from wrong import KINDS, check_kept, check_raised
from test_drawings import told
from test_lots import MANY

THREE, TWO = "0 5/1 2/3 4:+++", "0 2/1 3:++"
WORDS = ["draw", "copy", "drop", "move", "past", "turn", "behind", "other", "claim", "unclaim", "undo", "redo"]


def text_of(turn, mark=1):
    return desk_model.text_of((turn, (mark,) * (len(turn) // 2)))


BASE = text_of((9, 2, 1, 6, 3, 7, 4, 10, 5, 11, 8, 0))


def made_of(*commands):
    desk = Desk()
    for command in commands:
        desk.do(command)
    return desk


def all_told(desk):
    """All that the desk tells, but for papers."""
    return (
        [(name, print_drawing(desk.drawing(name))) for name in desk.names()],
        [(label, desk.claim(label), desk.state(label)) for label in desk.labels()])


def wanted_of(other):
    """The same of the desk of the model."""
    drawings, claims = other.kept(other.deeds)
    states = other.states(other.deeds)
    return (
        [(name, desk_model.text_of(drawings[name])) for name in sorted(drawings)],
        [(label, " ".join(claims[label]), states[label]) for label in sorted(claims)])


def some_command(luck, other):
    """Some command, of which many can be done."""
    drawings, claims = other.kept(other.deeds)
    names, labels = sorted(drawings) + [luck.choice("abc")], sorted(claims) + [luck.choice("pqr")]
    name, label = luck.choice(names), luck.choice(labels)
    word = luck.choice(["draw", "copy", "drop", "undo", "undo", "redo", "redo", "unclaim"] + ["claim"] * 5
                       + ["move"] * 5 + ["past", "turn", "behind", "other"])
    if word == "draw":
        return f"draw {luck.choice('abc')} {luck.choice([THREE, TWO, BASE, ':', '0 1:+', '0/1:-', '0 2/1 3:+-', '0 2 1 3:++'])}"
    if word == "copy":
        return f"copy {name} {luck.choice('abc')}"
    if word == "claim":
        two = luck.choice(names)
        return f"claim {luck.choice('pqrstu')} " + luck.choice([
            f"one {name} {two}", f"rings {name} {two}", f"full {name}", f"least {name} {luck.randrange(5)}",
            f"cords {name} {luck.randrange(1, 4)}"])
    if word == "unclaim":
        return f"unclaim {label}"
    if word in ("undo", "redo"):
        return word
    if name in drawings and word in ("move", "past", "turn"):
        return f"{word} {name} {some_change(luck, drawings[name], word)}"
    return f"{word} {name}" if word in ("drop", "behind", "other") else f"{word} {name} 0"


def some_change(luck, drawing, word):
    turn, marks = drawing
    if word == "move":
        moves = cord_model.small_ones(drawing)
        if not moves or len(marks) < 5 and luck.random() < 0.6:
            moves = [cord_model.some_laying(drawing, luck, cord_model.WORDS[:4])]
        move = luck.choice(moves)
        return " ".join([move[0]] + ["+" if kind == "s" else "-" if kind == "m" else str(part) for kind, part in kinds(move)])
    ties = luck.choice(model.parts(turn)) if model.is_block(turn) else (0, 1)
    flypes = model.flypes(turn) if model.is_block(turn) else []
    if word == "past":
        tie, ties = luck.choice(flypes) if flypes and luck.random() < 0.8 else (luck.randrange(4), ties)
        return f"{tie} {','.join(map(str, ties))}"
    return f"{','.join(map(str, ties))} {luck.choice('abc')}"


def kinds(move):
    """The parts of a move, with s for the mark 1 and m for the mark -1."""
    marked = move[0] in ("loop", "hang", "double", "split")
    for at, part in enumerate(move[1:], 1):
        yield ("s" if part == 1 else "m") if marked and at == len(move) - 1 else "n", part


class Commands(unittest.TestCase):

    def refused(self, desk, command, error, **attributes):
        before = all_told(desk)
        check_raised(self, (error, attributes), desk.do, command)
        check_raised(self, (error, attributes), desk.do, command=command)
        check_raised(self, (error, attributes), desk.do_all, ["draw zz :", command])
        self.assertEqual(all_told(desk), before)

    def test_drawings(self):
        desk = Desk()
        self.assertEqual([desk.names(), desk.labels()], [[], []])
        self.assertEqual(desk.do("draw k " + THREE), [])
        self.assertEqual(desk.do(command="draw circle :"), [])
        self.assertEqual(desk.do("copy k copied"), [])
        self.assertEqual(desk.names(), ["circle", "copied", "k"])
        self.assertEqual(desk.drawing("k"), Drawing(Web((5, 2, 1, 4, 3, 0)), (1, 1, 1)))
        self.assertEqual(desk.drawing(name="copied"), desk.drawing("k"))
        self.assertEqual(desk.do("move k hang 0 -"), [])
        self.assertEqual([desk.drawing("k").many, desk.drawing("copied").many], [4, 3])
        self.assertEqual(desk.do("drop k"), [])
        self.assertEqual(desk.names(), ["circle", "copied"])
        self.assertEqual(desk.do_all(commands=["drop circle", "drop copied"]), [[], []])
        self.assertEqual(desk.names(), [])

    def test_all_moves(self):
        for drawing in [((5, 2, 1, 4, 3, 0), (1, 1, -1)), ((2, 3, 0, 1), (1, -1)), ((), ()), ((2, 1, 3, 0), (1, 1)), ((1, 0), (-1,))]:
            seen = set()
            for move in cord_model.all_moves(drawing):
                if cord_model.can_be_done(drawing, move):
                    word = " ".join([move[0]] + ["+" if kind == "s" else "-" if kind == "m" else str(part) for kind, part in kinds(move)])
                    desk = made_of("draw k " + desk_model.text_of(drawing), "move k " + word)
                    self.assertEqual(told(desk.drawing("k")), cord_model.moved(drawing, move))
                    seen.add(move[0])
            self.assertTrue(seen)

    def test_past_turn_behind_other(self):
        turn = (9, 2, 1, 6, 3, 7, 4, 10, 5, 11, 8, 0)
        marks = (1, -1, 1, 1, -1, -1)
        start = "draw k " + desk_model.text_of((turn, marks))
        for tie, ties in model.flypes(turn):
            desk = made_of(start, f"past k {tie} {','.join(map(str, ties))}")
            self.assertEqual(told(desk.drawing("k")), (model.flyped(turn, tie, ties), marks))
        for ties in model.parts(turn):
            for letter in "abc":
                desk = made_of(start, f"turn k {','.join(map(str, ties))} {letter}")
                self.assertEqual(told(desk.drawing("k")), (model.turned(turn, ties, letter), marks))
        self.assertEqual(told(made_of(start, "behind k").drawing("k")), cord_model.from_behind((turn, marks)))
        self.assertEqual(told(made_of(start, "other k").drawing("k")), cord_model.other_colour((turn, marks)))

    def test_written_as_told(self):
        desk = made_of("draw k " + THREE, "claim c full k")
        for command in [
                "", " ", "draw", "draw ", "draw k", "draw K " + TWO, "draw  k " + TWO, "draw k2 " + TWO, "draw abcdefghi :", "draw  :",
                "Draw k :", "drawk :", " draw k :", "paint k :", "draw\nk :", "draw a\n :", "copy", "copy k", "copy k ", "copy k  b", "copy k b c",
                "copy k B", "copy k abcdefghi", "copy 1 b", "drop", "drop ", "drop k ", "drop k k", "drop K", " drop k", "drop  k",
                "behind", "behind k b", "behind K", "other", "other k 0", "other k ", "unclaim", "unclaim c d", "unclaim C", "unclaim c ",
                "undo ", " undo", "undo k", "undo 1", "redo ", "redo k", "Undo", "UNDO", "undo\n", "claims c full k",
                "move", "move k", "move k ", "move k jump 0", "move k loop", "move k loop 0", "move k loop + 0", "move k loop 0 1", "move k loop 0 ++",
                "move k loop 0 + 0", "move k loop 0  +", "move k loop 00 +", "move k loop 01 +", "move k loop 100 +", "move k loop -1 +",
                "move k loop a +", "move k loop 0 + ", "move K loop 0 +", "move k double 0 +", "move k double 0 1", "move k double 0,1 +",
                "move k double 0 1 2 +", "move k unloop 0 +", "move k unloop", "move k undouble 0", "move k undouble 0 1 2", "move k undouble 0 +",
                "move k star", "move k star 0 1", "move k triangle +", "move k star 0x", "move loop 0 +",
                "past", "past k", "past k 0", "past k 0 1 2", "past k 0 2,1", "past k 0 1,1", "past k 0 1,", "past k 0 ,1", "past k 0 1,,2",
                "past k 0 ", "past k a 1", "past k 00 1", "past k 0 01", "past k 0 1;2", "past k 100 1", "past k 0 1,100", "past 0 1", "past K 0 1",
                "turn", "turn k", "turn k 0", "turn k 0 d", "turn k 0 A", "turn k 0 ab", "turn k a 0", "turn k 1,0 a", "turn k 0,0 a", "turn k 0 a b",
                "turn k 0 ", "turn k  a", "turn k 0,1  a", "turn K 0 a",
                "claim", "claim d", "claim d full", "claim d full K", "claim d full k k", "claim d one k", "claim d one k k k", "claim d rings k",
                "claim d least k", "claim d least 3 k", "claim d least k k", "claim d least k 03", "claim d least k 100", "claim d least k +3",
                "claim d cords k -1", "claim d cords k 1 1", "claim d cords k", "claim d cords k x", "claim D full k", "claim abcdefghi full k",
                "claim d  full k", "claim d full k ", "claim d empty k", "claim full k", "claim 1 full k", "claim d one k abcdefghi"]:
            self.refused(desk, command, "InvalidCommand", value=command)
        for value in KINDS + [["undo"], ("undo",), b"undo"]:
            if not isinstance(value, str):
                check_raised(self, ("InvalidCommand", {"value": value}), desk.do, value)
                check_raised(self, ("InvalidCommand", {"value": value}), desk.do_all, ["undo", value])
        self.assertEqual(all_told(desk), ([("k", THREE)], [("c", "full k", True)]))

    def test_bad_texts(self):
        desk = made_of("draw k " + THREE)
        for text in ("", " ", "0 1:", "0 1:++", ": ", ":  ", "x", "0 2 1 3:++", "0 1:+ ", "k", " :", "0 0:+"):
            self.refused(desk, "draw b " + text, "BadText", position=desk_model.read(text))
            # The text is read ahead of what is kept under the name.
            self.refused(desk, "draw k " + text, "BadText", position=desk_model.read(text))
        self.refused(desk, "draw K ", "InvalidCommand", value="draw K ")

    def test_names_and_labels(self):
        desk = made_of("draw k " + THREE, "draw b :", "claim c full k")
        self.refused(desk, "draw k :", "NameTaken", name="k")
        self.refused(desk, "copy k b", "NameTaken", name="b")
        self.refused(desk, "copy x b", "NameTaken", name="b")
        self.refused(desk, "copy k k", "NameTaken", name="k")
        self.refused(desk, "copy x y", "UnknownName", value="x")
        self.refused(desk, "claim c full x", "LabelTaken", label="c")
        self.refused(desk, "unclaim k", "UnknownLabel", value="k")
        for command in ("drop x", "behind x", "other x", "move x loop 0 +", "move x star 99", "past x 0 1", "past x 99 1", "turn x 0 a", "drop abcdefgh"):
            self.refused(desk, command, "UnknownName", value=command.split(" ")[1])
        self.assertEqual(desk.do("draw abcdefgh :"), [])
        self.assertEqual(desk.do("claim abcdefgh full k"), [("abcdefgh", True)])
        for value in KINDS + ["x", "K", "", "abcdefghi", ("k",), ["k"]]:
            for call in (desk.drawing, desk.state, desk.claim, desk.paper):
                error = "UnknownName" if call == desk.drawing else "UnknownLabel"
                check_raised(self, (error, {"value": value}), call, value)
        check_raised(self, ("UnknownName", {"value": "c"}), desk.drawing, name="c")
        for call in (desk.state, desk.claim, desk.paper):
            check_raised(self, ("UnknownLabel", {"value": "k"}), call, label="k")

    def test_flypes_and_turns_that_are_none(self):
        desk = made_of("draw k " + BASE, "draw hang 0/1:+", "draw bare :", "draw chain 0 6 4 2/1 3/5 7:++++")
        for name in ("hang", "bare", "chain"):
            self.refused(desk, f"past {name} 99 99", "NotBlock")
            self.refused(desk, f"turn {name} 99 a", "NotBlock")
        self.refused(desk, "past k 6 0", "InvalidTie", value=6)
        self.refused(desk, "past k 99 99", "InvalidTie", value=99)
        self.refused(desk, "past k 0 6", "InvalidTies", value=(6,))
        self.refused(desk, "past k 0 0,2", "InvalidTies", value=(0, 2))
        self.refused(desk, "past k 0 2,3", "NotFlype", tie=0, ties=(2, 3))
        self.refused(desk, "past k 2 2,3", "NotFlype", tie=2, ties=(2, 3))
        self.refused(desk, "turn k 0,2 a", "InvalidTies", value=(0, 2))
        self.refused(desk, "turn k 0,1,2,3,4,5 c", "InvalidTies", value=(0, 1, 2, 3, 4, 5))

    def test_moves_that_are_none(self):
        desk = made_of("draw k " + THREE, "draw full " + text_of(model.ring(14)), "draw part 0 2/1 3:+-", "draw almost " + text_of(model.ring(13)))
        for move in ("star 0", "triangle 0", "unloop 0", "loop 6 +", "loop 99 -", "hang 6 +", "double 0 1 +", "undouble 0 1", "undouble 1 0", "unsplit 1 0"):
            self.refused(desk, "move k " + move, "BadMove")
        self.refused(desk, "move part undouble 0 1", "Parted")
        self.refused(desk, "move part unsplit 0 1", "Parted")
        for move in ("loop 0 +", "hang 3 -", "double 0 0 +", "split 0 0 +"):
            self.refused(desk, "move full " + move, "TooMany", what="ties", limit=14)
        self.refused(desk, "move almost split 0 0 +", "TooMany", what="ties", limit=14)
        self.refused(desk, "move full loop 28 +", "BadMove")
        self.assertEqual(desk.do("move almost loop 0 +"), [])
        self.assertEqual(desk.drawing("almost").many, 14)


class Undone(unittest.TestCase):

    def test_nothing(self):
        desk = Desk()
        check_raised(self, ("NothingToUndo", {}), desk.do, "undo")
        check_raised(self, ("NothingToRedo", {}), desk.do, "redo")
        desk.do("draw k :")
        check_raised(self, ("NothingToRedo", {}), desk.do, "redo")
        desk.do("undo")
        check_raised(self, ("NothingToUndo", {}), desk.do, "undo")
        desk.do("redo")
        check_raised(self, ("NothingToRedo", {}), desk.do, "redo")
        self.assertEqual(desk.names(), ["k"])

    def test_each_deed(self):
        deeds = ["draw k " + THREE, "claim c full k", "copy k b", "move k hang 0 +", "behind b", "claim d least k 3", "other k", "turn b 0 a",
                 "past b 0 1", "unclaim c", "drop b", "drop k", "draw b " + TWO, "claim c one b b"]
        desk, seen = Desk(), []
        for deed in deeds:
            seen.append(all_told(desk))
            desk.do(deed)
        seen.append(all_told(desk))
        for _ in range(2):
            for at in reversed(range(len(deeds))):
                desk.do("undo")
                self.assertEqual(all_told(desk), seen[at])
            check_raised(self, ("NothingToUndo", {}), desk.do, "undo")
            for at in range(len(deeds)):
                desk.do("redo")
                self.assertEqual(all_told(desk), seen[at + 1])
            check_raised(self, ("NothingToRedo", {}), desk.do, "redo")

    def test_what_is_left_to_be_redone(self):
        desk = made_of("draw k " + THREE, "behind k", "undo")
        for command, error, attributes in (
                ("draw k :", "NameTaken", {"name": "k"}), ("x", "InvalidCommand", {"value": "x"}), ("drop x", "UnknownName", {"value": "x"}),
                ("draw b x", "BadText", {"position": 0}), ("move k star 0", "BadMove", {})):
            check_raised(self, (error, attributes), desk.do, command)
        desk.do("redo")
        desk.do("undo")
        desk.do("claim c full k")
        check_raised(self, ("NothingToRedo", {}), desk.do, "redo")
        desk.do("undo")
        self.assertEqual([desk.labels(), desk.names()], [[], ["k"]])

    def test_two_hundred_and_back(self):
        desk = made_of("draw k " + THREE)
        for at in range(99):
            desk.do("behind k" if at % 2 else "other k")
        for _ in range(100):
            desk.do("undo")
        check_raised(self, ("NothingToUndo", {}), desk.do, "undo")
        self.assertEqual([desk.names(), desk.labels()], [[], []])
        for _ in range(100):
            desk.do("redo")
        check_raised(self, ("NothingToRedo", {}), desk.do, "redo")
        self.assertEqual(desk.names(), ["k"])


class Answers(unittest.TestCase):

    def test_claims_that_change(self):
        desk = Desk()
        self.assertEqual(desk.do("claim f full k"), [("f", None)])
        self.assertEqual(desk.do("claim c cords k 1"), [("c", None)])
        self.assertEqual(desk.do("draw k " + THREE), [("c", True), ("f", True)])
        self.assertEqual(desk.do("move k hang 0 +"), [("f", False)])
        self.assertEqual(desk.do("claim l least k 3"), [("l", True)])
        self.assertEqual(desk.do("undo"), [])
        self.assertEqual(desk.do("redo"), [])
        self.assertEqual(desk.do("drop k"), [("c", None), ("f", None), ("l", None)])
        self.assertEqual(desk.do("undo"), [("c", True), ("f", False), ("l", True)])
        self.assertEqual(desk.do("unclaim f"), [])
        self.assertEqual(desk.do("undo"), [])
        self.assertEqual(desk.do("behind k"), [])

    def test_answers_are_new(self):
        desk = made_of("draw k " + THREE)
        answer = desk.do("claim f full k")
        answer.append("spoilt")
        for call in (desk.names, desk.labels):
            told_names = call()
            told_names.append("spoilt")
            self.assertNotIn("spoilt", call())
        self.assertEqual(desk.do("undo"), [])
        self.assertEqual(desk.do("redo"), [])
        self.assertEqual([type(desk.do("behind k")), type(desk.do_all([])), desk.do_all(())], [list, list, []])
        commands = ["behind k", "behind k"]
        answers = desk.do_all(commands)
        answers[0].append("spoilt")
        self.assertEqual([commands, desk.do_all(tuple(commands))], [["behind k", "behind k"], [[], []]])

    def test_all_or_nothing(self):
        desk = made_of("draw k " + THREE, "claim f full k", "behind k", "undo")
        before = all_told(desk)
        for commands in (["behind k", "move k star 0", "behind k"], ["undo", "draw k", "redo"], ["move k hang 0 +", "move k star 0"], ["undo", "undo", "undo"], ["undo", "redo", "redo", "redo"], ["drop k", "drop k"],
                         ["unclaim f", "claim f full k", "claim f full k"], ["draw b :", "draw c x"], ["undo", None], ["redo", "undo", "nothing"]):
            with self.assertRaises((ValueError, LookupError, RuntimeError)):
                desk.do_all(commands)
            self.assertEqual(all_told(desk), before)
        self.assertEqual(desk.do_all(["redo", "undo"]), [[], []])
        self.assertEqual(desk.do_all(["move k hang 0 +", "undo", "redo", "drop k", "undo"]), [
            [("f", False)], [("f", True)], [("f", False)], [("f", None)], [("f", False)]])
        self.assertEqual(desk.do("undo"), [("f", True)])

    def test_like_the_model(self):
        for seed in range(25):
            luck, desk, other = Random(seed), Desk(), desk_model.Desk()
            for _ in range(40):
                command = some_command(luck, other)
                try:
                    wanted = other.do(command)
                except desk_model.Wrong as wrong:
                    check_raised(self, wrong.args, desk.do, command)
                else:
                    self.assertEqual(desk.do(command), wanted, command)
                self.assertEqual([desk.names(), desk.labels()], [sorted(row) for row in other.kept(other.deeds)])
            self.assertEqual(all_told(desk), wanted_of(other))

    def test_anew(self):
        for seed in range(12):
            luck, desk, other = Random(seed + 100), Desk(), desk_model.Desk()
            done = 0
            while done < 25:
                command = some_command(luck, other)
                try:
                    other.do(command)
                except desk_model.Wrong:
                    continue
                desk.do(command)
                done += 1
            new = Desk()
            for name in desk.names():
                new.do(f"draw {name} {print_drawing(desk.drawing(name))}")
            for label in desk.labels():
                self.assertEqual(new.do(f"claim {label} {desk.claim(label)}"), [(label, desk.state(label))])
            self.assertEqual(all_told(new), all_told(desk))


class States(unittest.TestCase):

    def test_one(self):
        near = text_of((8, 11, 10, 9, 7, 3, 1, 4, 2, 5, 0, 6))
        apart = text_of((2, 11, 10, 5, 7, 9, 1, 8, 4, 3, 0, 6))
        desk = made_of("draw a " + near, "draw b " + apart, "draw m " + near.replace("+", "-"), "draw r " + THREE, "draw h 0/1:+", "draw c :",
                       "draw u " + near.replace("++", "+-"))
        for one, two, state in [
                ("a", "b", True), ("b", "a", True), ("a", "a", True), ("a", "m", None), ("m", "m", True), ("a", "r", False), ("a", "h", None),
                ("h", "h", None), ("c", "c", None), ("a", "c", None), ("a", "x", None), ("x", "a", None), ("u", "u", None), ("a", "u", None)]:
            self.assertEqual(desk.do(f"claim p one {one} {two}"), [("p", state)])
            self.assertIs(desk.state("p"), state)
            self.assertEqual(desk.claim(label="p"), f"one {one} {two}")
            paper = desk.paper("p")
            if state is None:
                self.assertIsNone(paper)
            else:
                self.assertIs(is_decision(desk.drawing(one).web(), desk.drawing(two).web(), paper), True)
                self.assertEqual(paper[0], "one" if state else "two")
            desk.do("unclaim p")

    def test_rings(self):
        desk = made_of("draw a " + text_of((2, 6, 0, 5, 7, 3, 1, 4)), "draw b " + text_of((4, 6, 7, 5, 0, 3, 1, 2), -1), "draw t " + THREE,
                       "draw f " + text_of(model.bunch(4)), "draw s " + text_of(model.star(4)), "draw w " + TWO.replace("++", "+-"))
        for one, two, state in [("a", "b", True), ("b", "a", True), ("a", "t", None), ("a", "f", False), ("s", "s", None), ("a", "s", None),
                                ("w", "w", True), ("a", "x", None)]:
            self.assertEqual(desk.do(f"claim p rings {one} {two}"), [("p", state)])
            paper = desk.paper(label="p")
            if state:
                self.assertIs(is_turn_row(desk.drawing(one).web(), desk.drawing(two).web(), paper), True)
                self.assertTrue(ring_model.is_turn_row(desk.drawing(one).web().turn(), desk.drawing(two).web().turn(), paper))
            else:
                self.assertIsNone(paper)
            desk.do("unclaim p")

    def test_full_least_cords(self):
        for seed, turn in enumerate([(), (0, 1), (2, 3, 0, 1), (5, 2, 1, 4, 3, 0), model.grown(7, 1), model.grown(10, 1), model.grown(11, 1), model.ring(14)]):
            for marks in ((1,) * (len(turn) // 2), cord_model.some_marks(turn, seed)):
                drawing, few = (turn, marks), len(marks) <= 10
                desk = made_of("draw k " + desk_model.text_of(drawing))
                self.assertEqual(desk.do("claim f full k"), [("f", ring_model.is_full(drawing) if few else None)])
                least = ring_model.span(drawing) // 4 if few else 10
                self.assertEqual(desk.do(f"claim l least k {least}"), [("l", True if few else None)])
                self.assertEqual(desk.do(f"claim n least k {least + 1}"), [("n", False if few else None)])
                for label in ("f", "l", "n"):
                    self.assertIs(desk.paper(label) is None, not few)
                    if few:
                        self.assertIs(is_span_paper(desk.drawing("k"), desk.paper(label)), True)
                many = len(cord_model.cords(turn))
                self.assertEqual(desk.do(f"claim c cords k {many}"), [("c", True)])
                self.assertEqual(desk.do(f"claim d cords k {many + 1}"), [("d", False)])
                self.assertEqual([desk.paper("c"), desk.paper("d")], [cords(Web(turn))] * 2)
        self.assertIsNone(made_of("claim c cords k 1").paper("c"))

    def test_too_many_charts(self):
        # The lot of this block has more names than forty; none of them is that of the ring.
        large = "draw a " + text_of(model.grown(14, 3))
        desk = made_of("draw m " + text_of(MANY), "draw r " + text_of(model.ring(len(MANY) // 2)), "claim c one m r", "claim d one r m", large)
        self.assertEqual([desk.state("c"), desk.state("d")], [False, False])
        check_raised(self, ("TooMany", {"what": "charts", "limit": 40}), desk.paper, "c")
        self.assertEqual(desk.paper("d")[0], "two")
        self.assertEqual(desk.names(), ["a", "m", "r"])

    def test_papers_are_new(self):
        desk = made_of("draw k " + THREE, "claim f full k", "claim c cords k 1", "claim r rings k k", "claim o one k k")
        for label in desk.labels():
            check_kept(self, desk.paper, label)

    def test_claims_as_they_were_told(self):
        desk = made_of("draw k " + THREE)
        for label, told_claim in [("a", "one k x"), ("b", "rings x k"), ("c", "full k"), ("d", "least k 0"), ("e", "cords k 99"), ("f", "least k 10")]:
            desk.do(f"claim {label} {told_claim}")
            self.assertEqual([desk.claim(label), type(desk.claim(label))], [told_claim, str])

    def test_two_desks(self):
        one, other = made_of("draw k " + THREE), Desk()
        self.assertEqual([one.names(), other.names()], [["k"], []])
        other.do("draw b :")
        self.assertEqual([one.names(), other.names()], [["k"], ["b"]])


class Words(unittest.TestCase):

    def test_each_word_with_each_part(self):
        parts = ["k", "b", "0", "1", "+", "a", "0,1", "full", "loop", "", ":", "star", "10"]
        found = {}
        for many in range(4):
            for row in product(parts, repeat=many):
                for word in WORDS if many < 3 else ["move", "past", "turn", "claim", "draw"]:
                    if many == 3 and hash_of(row) % 4:
                        continue
                    command = " ".join((word,) + row)
                    desk, other = Desk(), desk_model.Desk()
                    for start in ("draw k " + TWO, "claim a full k"):
                        desk.do(start)
                        other.do(start)
                    try:
                        wanted = other.do(command)
                    except desk_model.Wrong as wrong:
                        check_raised(self, wrong.args, desk.do, command)
                        found[wrong.args[0]] = True
                    else:
                        self.assertEqual(desk.do(command), wanted)
        self.assertGreater(len(found), 8)


def hash_of(row):
    """A number by which some rows are chosen."""
    return sum(ord(sign) * (at + 1) for at, sign in enumerate(" ".join(row)))


if __name__ == "__main__":
    unittest.main()

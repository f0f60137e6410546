"""Point 23: a desk."""

import random
import re
import unittest

from openlines.desk import Desk
from openlines.errors import (
    Absent, Busy, InUse, NoBases, NoCall, NoCommand, NoDefiner, NoKind, NoLine, NoName, NoObject, NoOpen, NoText,
    Nothing, Taken, TooDeep, TooLong, TooMany,
)
from openlines.futures import targets
from openlines.registry import Registry
from openlines.texts import read_registry, show_registry
from plain import plain_wrong_row
from small import of_many_bodies
from told import CLASSES, told
from values import ANY_VALUES

STRING = "kind c\nbody f say end\nkind b c\nbody f say mid, next\nkind a b\nbody f next, call g"
FORMS = {
    "add": "NAME BASES", "rebase": "NAME BASES", "drop": "NAME", "body": "KIND CALL ROWS", "clear": "KIND CALL",
    "undo": "", "make": "KIND", "begin": "N CALL", "move": "N KIND", "discard": "N", "stop": "N", "step": "N",
    "rest": "N", "run": "KIND CALL", "kinds": "", "line": "KIND", "first": "KIND CALL",
    "following": "KIND DEFINER CALL", "targets": "KIND CALL",
}
METHODS = {"body": "set_body", "clear": "clear_body"}
EDITS = ("add", "rebase", "drop", "body", "clear", "undo")


def plain_answer(registry, command):
    """What a command tells of a registry, word for word; raises NoCommand or what the method raises."""
    if not isinstance(command, str) or re.fullmatch("[^ ]+( [^ ]+)*", command) is None:
        raise NoCommand()
    word, *told_words = command.split(" ")
    if word not in FORMS:
        raise NoCommand()
    arguments = plain_arguments(FORMS[word].split(), told_words)
    if word == "targets":
        found = targets(registry, *arguments)
        return " ".join([(target if target else "-") + ":" + "+".join(bases) for target, bases in found])
    value = getattr(registry, METHODS.get(word, word))(*arguments)
    if word in EDITS:
        return " ".join(["ok"] + [":".join(key) for key in value])
    if word in ("make", "begin"):
        return str(value)
    if word in ("move", "discard", "stop"):
        return "ok"
    if word == "step":
        return plain_event(value)
    if word in ("rest", "run"):
        return "; ".join([plain_event(event) for event in value]) or "none"
    if word in ("kinds", "line"):
        return " ".join(value) or "none"
    return "-" if value is None else value


def plain_arguments(form, words):
    """The arguments that the words tell; raises NoCommand."""
    arguments = []
    for at, part in enumerate(form):
        if part == "BASES":
            arguments.append(tuple(words[at:]))
            return arguments
        if at >= len(words):
            raise NoCommand()
        if part == "ROWS":
            rows = " ".join(words[at:])
            if plain_wrong_row(words[1], rows) is not None:
                raise NoCommand()
            parts = [] if rows == "-" else rows.split(", ")
            arguments.append(tuple([tuple(row.split(" ")) for row in parts]))
            return arguments
        if part == "N" and re.fullmatch("0|[1-9][0-9]{0,8}", words[at]) is None:
            raise NoCommand()
        arguments.append(int(words[at]) if part == "N" else words[at])
    if len(words) > len(form):
        raise NoCommand()
    return arguments


def plain_event(event):
    return event[0] + " " + ("-" if event[1] is None else event[1]) + " " + event[2]


def some_command(chance, registry):
    """A random command, mostly a good one."""
    kinds = (registry.kinds() or ["a"]) * 3 + ["a", "b", "c", "d", "new", "z", "A", "abcdefghi"]
    numbers = ["0", "1", "0", "1", "2", "3", "00", "01", "-1", "a", "999999999", "1234567890", "1_0", "+1"]
    calls = ["f", "f", "g", "g", "h", "F", "abcdefghi"]
    rows = ["next", "-", "say hi", "call h", "say hi, next", "next, call i", "call g", "next,", "next, next, say x", ""]
    parts = {"NAME": kinds, "KIND": kinds, "DEFINER": kinds, "CALL": calls, "N": numbers[:4] * 6 + numbers,
             "ROWS": rows[:6] * 4 + rows}
    word = chance.choice(list(FORMS) + ["step", "begin", "make", "body", "first", "following", "add"])
    words = [word]
    for part in FORMS[word].split():
        if part == "BASES":
            words += chance.sample(sorted(set(kinds)), chance.choice((0, 0, 1, 1, 2)))
        else:
            words.append(chance.choice(parts[part]))
    command = " ".join(words)
    if chance.random() < 0.05:
        at = chance.randrange(len(command) + 1)
        part = chance.choice((" ", "", "x", " x", "\n", "A", "0"))
        command = command[:at] + part + command[at + chance.randrange(2):]
    return command


class AnswerTest(unittest.TestCase):
    def check(self, desk, *rows):
        for command, answer in rows:
            self.assertEqual(desk.say(command), answer, command)

    def test_edits(self):
        desk = Desk()
        self.check(desk, ("kinds", "none"), ("add c", "ok"), ("add b c", "ok"), ("add a b c", "ok"),
                   ("kinds", "a b c"), ("line a", "a b c"), ("body c f say end", "ok"), ("first a f", "c"),
                   ("following a a f", "c"), ("following a c f", "-"), ("first b g", "-"),
                   ("body b f say mid, next", "ok a:f a:a:f"), ("first a f", "b"), ("run a f", "say b mid; say c end"),
                   ("clear b f", "ok a:f"), ("undo", "ok"), ("first a f", "b"), ("undo", "ok a:f"),
                   ("rebase a", "ok a:c:f"), ("line a", "a"), ("drop a", "ok"), ("kinds", "b c"),
                   ("undo", "ok"), ("rebase a b", "ok"), ("line a", "a b c"), ("body a f -", "ok"),
                   ("run a f", "none"), ("run a h", "lost - h"))

    def test_open_calls(self):
        desk = Desk(STRING)
        self.check(desk, ("make a", "0"), ("make b", "1"), ("begin 0 f", "0"), ("begin 1 g", "1"),
                   ("rest 0", "say b mid; say c end; lost a g"), ("step 0", "enter a f"), ("step 0", "enter b f"),
                   ("step 1", "lost - g"), ("step 0", "say b mid"), ("rest 0", "say c end; lost a g"),
                   ("move 0 a", "ok"), ("stop 0", "ok"), ("undo", "ok"), ("step 0", "enter c f"),
                   ("step 0", "say c end"),
                   ("step 0", "leave c f"), ("step 0", "leave b f"), ("step 0", "lost a g"), ("rest 0", "none"),
                   ("step 0", "leave a f"), ("discard 0", "ok"), ("make c", "2"), ("discard 1", "ok"))

    def test_targets(self):
        desk = Desk("kind a\nbody f next\nkind b\nbody f next\nkind c b\nbody f -")
        self.check(desk, ("targets a f", "b:a+b c:a+c -:a"), ("targets b f", "a:b+a -:b"),
                   ("targets c f", "a:c+a+b b:c"),
                   ("targets a g", "-:a"))

    def test_the_registry_of_a_string(self):
        self.assertEqual(Desk().say("kinds"), "none")
        self.assertEqual(Desk("").say("kinds"), "none")
        self.assertEqual(Desk(string=STRING).say("kinds"), "a b c")
        self.assertEqual(told(Desk(STRING).say, "undo"), ("Nothing", {}))
        self.assertEqual(told(Desk().say, "undo"), ("Nothing", {}))
        for thing in ANY_VALUES:
            if not isinstance(thing, str):
                self.assertEqual(told(Desk, thing), ("NoText", {"at": -1}))
        with self.assertRaises(NoText) as caught:
            Desk("kind a\nkind a")
        self.assertEqual(caught.exception.at, 1)
        self.assertEqual(told(Desk, "kind b\nkind a"), ("NoText", {"at": 2}))

    def test_two_desks_share_nothing(self):
        one, other = Desk(), Desk()
        one.say("add a")
        self.assertEqual((one.say("kinds"), other.say("kinds")), ("a", "none"))

    def test_errors_of_the_methods(self):
        desk = Desk(STRING)
        desk.say_all("make c", "make a", "begin 0 f")
        rows = [
            ("add A", NoName), ("add abcdefghi", NoName), ("add a", Taken), ("add d z", NoBases),
            ("add d a a", NoBases),
            ("add d " + " ".join(["a"] * 11), NoBases), ("add d c a", NoLine), ("rebase z", NoKind),
            ("rebase a a", NoBases),
            ("rebase c b", NoBases), ("rebase b z c", NoBases), ("rebase a c b", NoLine), ("drop z", NoKind),
            ("drop c", InUse), ("drop a", InUse), ("body z f next", NoKind), ("body a F next", NoCall),
            ("body z F next", NoKind), ("clear a g", Absent), ("clear a G", Absent), ("clear z f", NoKind),
            ("make z", NoKind), ("begin 5 f", NoObject), ("begin 0 F", NoCall), ("begin 5 F", NoObject),
            ("begin 999999999 f", NoObject), ("move 5 a", NoObject), ("move 0 z", NoKind), ("discard 5", NoObject),
            ("discard 0", Busy), ("stop 5", NoOpen), ("step 5", NoOpen), ("rest 5", NoOpen), ("run z f", NoKind),
            ("run a F", NoCall), ("line z", NoKind), ("first z f", NoKind), ("first a F", NoCall),
            ("following z a f", NoKind), ("following a z F", NoDefiner), ("following a a F", NoCall),
            ("targets z f", NoKind), ("targets a F", NoCall),
        ]
        for command, error in rows:
            with self.assertRaises(error, msg=command) as caught:
                desk.say(command)
            self.assertIs(type(caught.exception), error)
        self.assertEqual(desk.say_all(*[row[0] for row in rows], stop=False), ["refused"] * len(rows))
        self.assertEqual(desk.say("rest 0"), "say c end")

    def test_too_many_too_long_too_deep(self):
        desk = Desk("\n".join(["kind " + name for name in "abcdefghij"]))
        self.assertRaises(TooMany, desk.say, "add k")
        desk = Desk(show_registry(of_many_bodies(4)))
        self.assertRaises(TooLong, desk.say, "run a f")
        self.assertEqual(Desk(show_registry(of_many_bodies(3))).say("run a f"), "none")
        desk.say_all("make a", "begin 0 f")
        self.assertRaises(TooLong, desk.say, "rest 0")
        self.assertEqual(desk.say_all("rest 0", "run a f", stop=False), ["refused"] * 2)
        desk = Desk("kind a\nbody f next\nkind b\nbody f next\nkind p a b\nkind q b a")
        desk.say_all("make p", "begin 0 f", "step 0")
        for at in range(39):
            desk.say_all("move 0 " + "pq"[at % 2], "step 0")
        desk.say("move 0 q")
        self.assertRaises(TooDeep, desk.say, "step 0")
        self.assertEqual(desk.say_all("step 0", "move 0 p", "step 0", stop=False), ["refused", "ok", "lost b f"])

    def test_answers_of_random_commands(self):
        seen = {}
        for seed in range(60):
            chance = random.Random(seed)
            string = STRING if seed % 2 else ""
            desk, registry = Desk(string), read_registry(string)
            for _ in range(150):
                command = some_command(chance, registry)
                one, other = told(desk.say, command), told(plain_answer, registry, command)
                self.assertEqual(one, other, command)
                seen[command.split(" ")[0] if one[0] == "returned" else one[0]] = True
        wanted = "NoCommand NoName NoBases NoKind NoCall Taken InUse NoObject NoOpen Busy Absent NoDefiner Nothing"
        for word in list(FORMS) + wanted.split():
            self.assertIn(word, seen)


class CommandTest(unittest.TestCase):
    def test_no_command(self):
        desk = Desk(STRING)
        desk.say_all("make a", "begin 0 f")
        commands = [
            "", " ", "  ", "Kinds", "kind", "kinds ", " kinds", "kinds a", "kinds\n", "\n", "say", "has a", "show",
            "add", "add ", "add d ", "add  d", "add d  a", " add d", "rebase", "drop", "drop a b", "drop  c",
            "body", "body a", "body a f", "body a f ", "body a f  next", "body a f next ", "body a f next,",
            "body a f x",
            "body a f call f", "body a f call a", "body a f next, -", "body a f Next", "body a f say",
            "body a f next,next",
            "body a f " + ", ".join(["next"] * 7), "body z F x", "body a zz call g", "body a ~ call g", "body  f next",
            "clear", "clear a", "clear a f g", "undo 1", "undo ", "make", "make a b", "begin", "begin 0", "begin 0 f g",
            "begin a f", "begin 00 f", "begin -0 f", "begin -1 f", "begin +0 f", "begin 0x0 f", "begin 1_0 f",
            "begin \u0663 f", "begin \u00b2 f", "begin 0000000000 f", "begin 1234567890 f", "begin 0.0 f", "move 0",
            "move a 0", "move 01 a", "move 0 a b",
            "discard", "discard a", "discard 0 0", "discard 0\n", "stop", "stop 00", "stop True", "step", "step 0 0",
            "step x",
            "rest", "rest x", "rest 0 1", "run", "run a", "run a f g", "line", "line a b", "first a", "first a f g",
            "following a f", "following a a f g", "targets a", "targets a f g", "undo\n", "UNDO", "clear_body a f",
        ]
        before = desk.say_all("kinds", "rest 0", "run a f", "first a f")
        for command in commands:
            self.assertEqual(told(desk.say, command), ("NoCommand", {}), command)
        self.assertEqual(desk.say_all(*commands, stop=False), ["refused"] * len(commands))
        self.assertEqual(desk.say_all("kinds", "rest 0", "run a f", "first a f"), before)

    def test_any_value(self):
        desk = Desk()
        for thing in ANY_VALUES + ([Desk()], ["kinds"], ("kinds",)):
            self.assertEqual(told(desk.say, thing), ("NoCommand", {}))
            self.assertEqual(desk.say_all(thing, stop=False), ["refused"])

    def test_rows_for_a_call_that_is_no_name(self):
        desk = Desk("kind a")
        # Rows are judged first: by the call as it is written, whether it is a name or not.
        for command, error in (("body a F call a", "NoCall"), ("body a F next", "NoCall"),
                               ("body a F nex", "NoCommand"),
                               ("body a ~ call z", "NoCommand"), ("body a abcdefghi call abcdefg", "NoCommand"),
                               ("body a abcdefghi call abcdefh", "NoCall"), ("body z ~ -", "NoKind"),
                               ("body a ~ -", "NoCall"), ("body z f call e", "NoCommand")):
            self.assertEqual(told(desk.say, command)[0], error, command)

    def test_numbers(self):
        desk = Desk("kind a\nbody f next")
        self.assertEqual(desk.say_all("make a", "begin 0 f", "rest 0"), ["0", "0", "lost a f"])
        for number in ("1", "10", "123456789", "999999999"):
            self.assertEqual(told(desk.say, "step " + number), ("NoOpen", {"number": int(number)}))
            self.assertEqual(told(desk.say, "move " + number + " a"), ("NoObject", {"number": int(number)}))

    def test_keywords(self):
        self.assertEqual(Desk(string="kind a").say(command="kinds"), "a")
        with self.assertRaises(TypeError):
            Desk().say_all(commands=("kinds",))


class SayAllTest(unittest.TestCase):
    def test_all_answers(self):
        desk = Desk()
        self.assertEqual(desk.say_all("add a", "add b a", "line b"), ["ok", "ok", "b a"])
        self.assertEqual(desk.say_all(), [])
        self.assertEqual(desk.say_all(stop=False), [])

    def test_stop(self):
        desk = Desk()
        with self.assertRaises(Taken) as caught:
            desk.say_all("add a", "add a", "add b")
        self.assertEqual(caught.exception.name, "a")
        self.assertEqual(desk.say("kinds"), "a")
        with self.assertRaises(NoCommand):
            desk.say_all("add b", "nothing", "add c", stop=True)
        self.assertEqual(desk.say("kinds"), "a b")

    def test_refused(self):
        desk = Desk()
        answers = desk.say_all("add a", "add a", "", "add b", None, "undo", "kinds", "undo", "undo", stop=False)
        self.assertEqual(answers, ["ok", "refused", "refused", "ok", "refused", "ok", "a", "ok", "refused"])

    def test_the_list_is_new(self):
        desk = Desk()
        desk.say_all("kinds").append("z")
        self.assertEqual(desk.say_all("kinds"), ["none"])

    def test_every_error_that_a_command_raises_is_refused(self):
        for seed in range(20):
            chance = random.Random(1000 + seed)
            desk, registry = Desk(STRING), read_registry(STRING)
            commands, answers = [], []
            for _ in range(100):
                commands.append(some_command(chance, registry))
                try:
                    answers.append(plain_answer(registry, commands[-1]))
                except CLASSES:
                    answers.append("refused")
            self.assertEqual(desk.say_all(*commands, stop=False), answers)

    def test_a_desk_is_no_registry(self):
        self.assertFalse(Registry() == Desk())
        self.assertRaises(Nothing, Desk().say_all, "undo")


if __name__ == "__main__":
    unittest.main()

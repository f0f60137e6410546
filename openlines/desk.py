"""A desk: a registry that answers commands."""

from openlines.errors import (
    Absent, Busy, InUse, NoBases, NoCall, NoCommand, NoDefiner, NoKind, NoLine, NoName, NoObject, NoOpen, NoText,
    Nothing, Taken, TooDeep, TooLong, TooMany,
)
from openlines.futures import targets
from openlines.texts import DASH, read_body, read_registry, show_event

MOST_DIGITS = 9

# What stands behind the first word of a command: one word each, but bases and rows take all that is left.
FORMS = {
    "add": ("name", "bases"), "rebase": ("name", "bases"), "drop": ("name",), "body": ("kind", "call", "rows"),
    "clear": ("kind", "call"), "undo": (), "make": ("kind",), "begin": ("number", "call"),
    "move": ("number", "kind"), "discard": ("number",), "stop": ("number",), "step": ("number",),
    "rest": ("number",), "run": ("kind", "call"), "kinds": (), "line": ("kind",), "first": ("kind", "call"),
    "following": ("kind", "definer", "call"), "targets": ("kind", "call"),
}


def _arguments(form, words):
    """Return what the words behind the first one of a command tell, a list; raises NoCommand."""
    single = [part for part in form if part not in ("bases", "rows")]
    if len(words) < len(single):
        raise NoCommand()
    found = [_number(word) if part == "number" else word for part, word in zip(single, words)]
    rest = words[len(single):]
    if form[-1:] == ("bases",):
        found.append(tuple(rest))
    elif form[-1:] == ("rows",):
        found.append(_rows(found[-1], " ".join(rest)))
    elif rest:
        raise NoCommand()
    return found


def _number(word):
    """Return the number that a word writes; raises NoCommand."""
    if not word.isascii() or not word.isdigit() or len(word) > MOST_DIGITS or str(int(word)) != word:
        raise NoCommand()
    return int(word)


def _rows(call, string):
    """Return the body for a call that is so written; raises NoCommand."""
    try:
        return read_body(call, string)
    except NoText:
        raise NoCommand() from None


def _done(dropped):
    """Return the answer to an edit: the dropped keys of the cache behind "ok"."""
    return " ".join(["ok"] + [":".join(key) for key in dropped])


def _add(registry, name, bases):
    return _done(registry.add(name, bases))


def _rebase(registry, name, bases):
    return _done(registry.rebase(name, bases))


def _drop(registry, name):
    return _done(registry.drop(name))


def _body(registry, kind, call, rows):
    return _done(registry.set_body(kind, call, rows))


def _clear(registry, kind, call):
    return _done(registry.clear_body(kind, call))


def _undo(registry):
    return _done(registry.undo())


def _make(registry, kind):
    return str(registry.make(kind))


def _begin(registry, number, call):
    return str(registry.begin(number, call))


def _move(registry, number, kind):
    registry.move(number, kind)
    return "ok"


def _discard(registry, number):
    registry.discard(number)
    return "ok"


def _stop(registry, number):
    registry.stop(number)
    return "ok"


def _step(registry, number):
    return show_event(registry.step(number))


def _events(events):
    """Return events, written."""
    return "; ".join([show_event(event) for event in events])


def _rest(registry, number):
    return _events(registry.rest(number))


def _run(registry, kind, call):
    return _events(registry.run(kind, call))


def _kinds(registry):
    return " ".join(registry.kinds())


def _line(registry, kind):
    return " ".join(registry.line(kind))


def _first(registry, kind, call):
    return registry.first(kind, call) or DASH


def _following(registry, kind, definer, call):
    return registry.following(kind, definer, call) or DASH


def _targets(registry, kind, call):
    found = targets(registry, kind, call)
    return " ".join([(target or DASH) + ":" + "+".join(bases) for target, bases in found])


ACTIONS = {
    "add": _add, "rebase": _rebase, "drop": _drop, "body": _body, "clear": _clear, "undo": _undo, "make": _make,
    "begin": _begin, "move": _move, "discard": _discard, "stop": _stop, "step": _step, "rest": _rest, "run": _run,
    "kinds": _kinds, "line": _line, "first": _first, "following": _following, "targets": _targets,
}


class Desk:
    """A registry that answers commands: strings of words with one blank between two."""

    def __init__(self, string=""):
        self._registry = read_registry(string)

    def say(self, command):
        """Return the answer to a command; raises NoCommand, or what the method that it asks for raises."""
        if not isinstance(command, str):
            raise NoCommand()
        words = command.split(" ")
        if "" in words or words[0] not in FORMS:
            raise NoCommand()
        arguments = _arguments(FORMS[words[0]], words[1:])
        action = ACTIONS[words[0]]
        return action(self._registry, *arguments) or "none"

    def say_all(self, *commands, stop=True):
        """Return the answers to commands, which are said one after another."""
        answers = []
        for command in commands:
            try:
                answers.append(self.say(command))
            except (
                NoCommand, NoName, NoBases, NoLine, NoCall, NoKind, NoObject, NoOpen, Absent, NoDefiner, Taken, InUse,
                Busy, Nothing, TooMany, TooLong, TooDeep,
            ):
                if stop:
                    raise
                answers.append("refused")
        return answers

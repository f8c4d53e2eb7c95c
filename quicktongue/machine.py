"""The machine: it executes units, and can be stopped and continued at any standing."""

from quicktongue.codefaults import fits_whole
from quicktongue.engine import Engine, Frame
from quicktongue.errors import BadInputs, BadNumber, BadStanding, BadUnit
from quicktongue.trees import are_words, is_word
from quicktongue.units import is_position


def beginning(unit, f, leads, softs):
    """The standing at the beginning of a function with some arguments."""
    return told_standing(begun_engine(unit, f, leads, softs))


def run(unit, f, leads, softs):
    """The pair of the outcomes of a function and of the number of its steps."""
    engine = begun_engine(unit, f, leads, softs)
    engine.go_to_end()
    return engine.outcomes, engine.many


def is_standing(unit, thing):
    """Whether any value is a standing of a unit."""
    require_whole(unit)
    return fits_standing(Engine(unit), thing)


def step(unit, standing):
    """The pair of the standing after a step and of its count; None if the standing is ended."""
    engine = continued_engine(unit, standing)
    if engine.outcomes is not None:
        return None
    engine.execute()
    return told_standing(engine), engine.many


def rest_of_run(unit, standing):
    """The pair of the outcomes of the run that goes on from a standing, and of its steps from there on."""
    engine = continued_engine(unit, standing)
    engine.go_to_end()
    return engine.outcomes, engine.many


def require_whole(unit):
    """Raises BadUnit if any value is not a whole unit that is taken."""
    if not fits_whole(unit):
        raise BadUnit(unit)


def begun_engine(unit, f, leads, softs):
    """An engine at the beginning of a function; raises the errors of a run that cannot begin."""
    require_whole(unit)
    if not is_position(f, unit[1]):
        raise BadNumber(f)
    code = unit[1][f]
    if not are_words(leads, code[0]):
        raise BadInputs(leads)
    if not are_words(softs, code[1]):
        raise BadInputs(softs)
    engine = Engine(unit)
    engine.begin(f, leads, softs)
    return engine


def continued_engine(unit, standing):
    """An engine at a standing; raises the errors of a step that cannot be taken."""
    require_whole(unit)
    engine = Engine(unit)
    if not fits_standing(engine, standing):
        raise BadStanding(standing)
    if standing[0] == "ended":
        engine.outcomes = standing[1]
    else:
        engine.frames = [Frame(f, row, leads, softs, rounds) for f, row, leads, softs, rounds in standing]
    return engine


def told_standing(engine):
    """The standing of an engine."""
    if engine.outcomes is not None:
        return ("ended", engine.outcomes)
    return tuple([frame.told() for frame in engine.frames])


def fits_standing(engine, thing):
    """Whether any value is a standing of an engine's unit."""
    if not isinstance(thing, tuple) or not thing:
        return False
    if thing[0] == "ended":
        return len(thing) == 2 and are_some_words(thing[1])
    if not all(fits_frame(engine, part) for part in thing):
        return False
    return all(is_called(engine, thing[at - 1], thing[at]) for at in range(1, len(thing)))


def fits_frame(engine, thing):
    """Whether any value is a frame of an engine's unit."""
    if not isinstance(thing, tuple) or len(thing) != 5 or not is_position(thing[0], engine.guides):
        return False
    f, row, leads, softs, rounds = thing
    guide = engine.guides[f]
    if not is_position(row, guide.rows) or row in guide.layout.heads:
        return False
    if not are_words(softs, guide.wide_softs) or not are_words(rounds, len(guide.layout.rounds[row])):
        return False
    return fits_leads(leads, guide.wide_leads, guide.aheads[row])


def fits_leads(thing, wide, ahead):
    """Whether any value is a tuple of words for so many leading registers, with None for those not set ahead."""
    if not isinstance(thing, tuple) or len(thing) != wide:
        return False
    return all(is_word(word) if ("l", at) in ahead else word is None for at, word in enumerate(thing))


def are_some_words(thing):
    """Whether any value is a tuple of one or more words."""
    return isinstance(thing, tuple) and len(thing) > 0 and are_words(thing, len(thing))


def is_called(engine, frame, inner):
    """Whether a frame is at a "call" of the function of another one."""
    row = engine.guides[frame[0]].rows[frame[1]]
    return row[0] == "call" and row[1] == inner[0]

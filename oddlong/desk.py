"""From sheets to answers, and from signs to sheets."""

from oddlong.carrying import parsed
from oddlong.making import made
from oddlong.sheet import read_program, written_program
from oddlong.signrunning import run_signs
from oddlong.uses import least_form

MOST = 8
NEAR = 4
FAR = 16


def answered(text, given, steps):
    """What a sheet's program tells, and how it ends, as a text; it is run by signs in its least form."""
    program = read_program(text)
    form = least_form(program, MOST, NEAR, FAR)
    signs, places, fars = made(form, program)
    told, how, numbers, place = run_signs(form, signs, given, steps)
    return " ".join([str(number) for number in told] + [how])


def sheet_of(form, text):
    """The sheet of the program that a text of signs tells."""
    return written_program(parsed(form, text))

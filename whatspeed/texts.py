"""Numbers, Lines, Stretches, curves and runs as texts."""

from whatspeed.errors import BadStretch, BadText
from whatspeed.exact import Line, Number, Stretch
from whatspeed.words import read_whole

# Thirty digits.
GREATEST = 10 ** 30 - 1


def show_number(number):
    """A Number as a text: 7, -7, 3/4 or -3/4."""
    return f"{number.top}" if number.bottom == 1 else f"{number.top}/{number.bottom}"


def show_line(line):
    """A Line as a text: BASE, SLOPEs, BASE + SLOPEs or BASE - SLOPEs."""
    base, slope = line.base, line.slope
    if not slope:
        return show_number(base)
    if not base:
        return f"{show_number(slope)}s"
    sign = "-" if slope.top < 0 else "+"
    return f"{show_number(base)} {sign} {show_number(abs(slope))}s"


def show_stretch(stretch):
    """A Stretch as a text: [LOW HIGH], with ( or ) at an end that is not included."""
    opening = "[" if stretch.has_low else "("
    closing = "]" if stretch.has_high else ")"
    return f"{opening}{show_number(stretch.low)} {show_number(stretch.high)}{closing}"


def read_number(text):
    """The Number that is written just so; raises BadText for any other value."""
    return _read(text, number_of)


def read_line(text):
    """The Line that is written just so; raises BadText for any other value."""
    return _read(text, _line_of)


def read_stretch(text):
    """The Stretch that is written just so; raises BadText for any other value."""
    return _read(text, _stretch_of)


def show_curve(curve):
    """A line for each cell: its stretch, its outcome and its time."""
    rows = [f"{show_stretch(cell.stretch)} {cell.outcome} {show_line(cell.time)}" for cell in curve.cells]
    return "\n".join(rows)


def show_run(run):
    """A line for each event: its time, word, task and number; then the outcome and the time."""
    rows = []
    for time, events in run.moments:
        rows.extend([f"{show_number(time)} {word} {task} {number}" for word, task, number in events])
    rows.append(f"{run.outcome} {show_number(run.time)}")
    return "\n".join(rows)


def number_of(text):
    """The Number that a string writes; None if it writes none."""
    above, stroke, below = text.removeprefix("-").partition("/")
    top = read_whole(above, 0, GREATEST)
    bottom = read_whole(below, 1, GREATEST) if stroke else 1
    if top is None or bottom is None:
        return None
    number = Number(-top if text.startswith("-") else top, bottom)
    # What is not in lowest terms, -0 and a bottom of 1 would not be written so.
    return number if show_number(number) == text else None


def _read(text, reader):
    """What a reader of strings makes of any value; raises BadText if that is None."""
    found = reader(text) if isinstance(text, str) else None
    if found is None:
        raise BadText(text)
    return found


def _line_of(text):
    """The Line that a string writes; None if it writes none."""
    words = text.split(" ")
    if len(words) == 1:
        words = ["0", "+", text] if text.endswith("s") else [text, "+", "0s"]
    if len(words) != 3:
        return None
    base, slope = number_of(words[0]), number_of(words[2].removesuffix("s"))
    if base is None or slope is None:
        return None
    line = Line(base, -slope if words[1] == "-" else slope)
    # Other signs, a slope without its s, and parts that are to be left out would not be written so.
    return line if show_line(line) == text else None


def _stretch_of(text):
    """The Stretch that a string writes; None if it writes none."""
    if text[:1] not in ("[", "(") or text[-1:] not in ("]", ")"):
        return None
    words = text[1:-1].split(" ")
    if len(words) != 2:
        return None
    low, high = number_of(words[0]), number_of(words[1])
    try:
        # None is no end either.
        return Stretch(low, high, has_low=text.startswith("["), has_high=text.endswith("]"))
    except BadStretch:
        return None

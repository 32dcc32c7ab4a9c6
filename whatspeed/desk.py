"""A desk: a bench that is used by lines."""

from whatspeed.asking import falls, reaches
from whatspeed.benches import Bench
from whatspeed.errors import BadLine
from whatspeed.texts import number_of, show_curve, show_number, show_stretch
from whatspeed.words import is_name, read_whole

# Nine digits.
GREATEST = 999999999
DONE = "done"
NOTHING = "-"
BAR = "|"


class Desk:
    """A bench that is used by lines; raises as Bench."""

    def __init__(self, text):
        self._bench = Bench(text)

    def say(self, line):
        """Does what a line says, and returns the answer; raises BadLine, then what the bench and the functions do."""
        word, found = _read(line)
        if found is None:
            raise BadLine(line)
        action = ANSWERS[word]
        return action(self._bench, *found)


def _read(line):
    """The first word of any value that is a line, and what its other words tell; None for what it does not tell."""
    if not isinstance(line, str) or "\n" in line:
        return None, None
    words = line.split(" ")
    if "" in words or words[0] not in READERS:
        return None, None
    reader = READERS[words[0]]
    return words[0], reader(words[1:])


# Readers: what the words behind the first one tell, as a tuple; None if they do not have the form.


def _read_nothing(words):
    return None if words else ()


def _read_edit(words):
    if len(words) < 3:
        return None
    line, count = read_whole(words[0], 0, GREATEST), read_whole(words[1], 0, GREATEST)
    if line is None or count is None:
        return None
    if words[2:] == [NOTHING]:
        return (line, count, None)
    rows = _rows_between_bars(words[2:])
    return None if "" in rows else (line, count, "\n".join(rows))


def _read_speeds(words):
    rows = _rows_of(words, 2)
    return None if rows is None else (rows,)


def _read_question(words):
    rows = _rows_of(words, 3)
    return None if rows is None else (rows,)


def _read_limit(words):
    limit = number_of(words[0]) if words else None
    rows = _rows_of(words[1:], 3)
    return None if limit is None or rows is None else (limit, rows)


def _rows_between_bars(words):
    rows = [[]]
    for word in words:
        if word == BAR:
            rows.append([])
        else:
            rows[-1].append(word)
    return [" ".join(row) for row in rows]


def _rows_of(words, width):
    """Rows of so many words each, (part, Number, ..), ascending by part; None if the words are none."""
    if len(words) % width != 0:
        return None
    rows = []
    for at in range(0, len(words), width):
        part = words[at]
        numbers = [number_of(word) for word in words[at + 1:at + width]]
        if not is_name(part) or any([number is None for number in numbers]):
            return None
        if rows and part <= rows[-1][0]:
            return None
        rows.append((part, *numbers))
    return tuple(rows)


# Answers: what is told for what was read.


def _answer_edit(bench, line, count, text):
    bench.edit(line, count, text)
    return DONE


def _answer_undo(bench):
    bench.undo()
    return DONE


def _answer_redo(bench):
    bench.redo()
    return DONE


def _answer_text(bench):
    return bench.text.replace("\n", f" {BAR} ")


def _answer_run(bench, speeds):
    one = bench.run(speeds)
    outputs = [f" {task}:{value}" for _, task, value in one.outputs]
    return f"{one.outcome} {show_number(one.time)}" + "".join(outputs)


def _answer_why(bench, speeds):
    links = bench.run(speeds).chain()
    rows = [f"{word} {task} {line} {show_number(length)}" for word, task, line, length in links]
    return "; ".join(rows) or NOTHING


def _answer_curve(bench, question):
    return show_curve(bench.curve(question)).replace("\n", "; ")


def _answer_by(bench, limit, question):
    return _joined_stretches(reaches(bench.curve(question), limit))


def _answer_falls(bench, question):
    return "no" if falls(bench.curve(question)) is None else "yes"


def _answer_change(bench, question):
    slower, unlike = bench.change(question)
    return f"{_joined_stretches(slower)} / {_joined_stretches(unlike)}"


def _joined_stretches(stretches):
    return " ".join([show_stretch(stretch) for stretch in stretches]) or NOTHING


READERS = {
    "edit": _read_edit,
    "undo": _read_nothing,
    "redo": _read_nothing,
    "text": _read_nothing,
    "run": _read_speeds,
    "why": _read_speeds,
    "curve": _read_question,
    "by": _read_limit,
    "falls": _read_question,
    "change": _read_question,
}
ANSWERS = {
    "edit": _answer_edit,
    "undo": _answer_undo,
    "redo": _answer_redo,
    "text": _answer_text,
    "run": _answer_run,
    "why": _answer_why,
    "curve": _answer_curve,
    "by": _answer_by,
    "falls": _answer_falls,
    "change": _answer_change,
}

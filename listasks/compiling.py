"""From programs to their questions, and from questions to answers."""

from listasks.flatrun import rows_in_order, run_plain, run_under
from listasks.kinds import place_around
from listasks.reading import read
from listasks.shredding import shred


def questions_of(program):
    return shred(read(program), program.kind)


def answers_of(questions, store):
    return tuple([run_plain(question, store) for question in questions])


def ask_by_rows(questions, store):
    found = {}
    count = 0
    for question in questions:
        around = place_around(question.place)
        keys = [()]
        if around is not None:
            keys = [outer + own for outer, own, _ in found[around]]
        count += len(keys)
        rows = [row for key in keys for row in run_under(question, key, store)]
        found[question.place] = rows_in_order(rows)
    return tuple([found[question.place] for question in questions]), count

"""What cannot hold together: parts of a question alone, and the least clash."""

from besthours.checking import is_clash_paper, lot_numbers
from besthours.choices import choice_sizes, need_question
from besthours.demands import all_demands, parts_of
from besthours.engine import engine_of
from besthours.errors import BadParameter, NoRow
from besthours.store import full_masks


def together(question, lot):
    """("row", ROW) of a row that keeps all demands of some parts, or ("proof", STEPS) by these alone."""
    need_question(question)
    told = all_demands(question)
    if lot_numbers(parts_of(told), lot) is None:
        raise BadParameter(lot)
    sizes = choice_sizes(question[0])
    engine = engine_of(sizes, [(number, one, 0) for number, (part, one) in enumerate(told) if part in lot])
    found = engine.run(full_masks(sizes), 0, None)
    if found[0] == "row":
        return found
    return ("proof", engine.store.proof([found[1]], ())[0])


class Clash:
    """Parts of a question that cannot hold together, each with its tag."""

    def __init__(self, question):
        sizes = choice_sizes(question[0])
        told = all_demands(question)
        self.tags = {part: 1 << number for number, part in enumerate(parts_of(told))}
        self.engine = engine_of(sizes, [(number, one, self.tags[part]) for number, (part, one) in enumerate(told)])
        self.sets = full_masks(sizes)
        # what is left, and what the last proof needs of it: the number of its last step, and tags
        self.left = sum(list(self.tags.values()))
        self.step = 0
        self.needed = 0

    def row_of(self, tags):
        """A row that keeps the parts with these tags; None, if there is none, and the proof is kept."""
        found = self.engine.run(self.sets, tags, None)
        if found[0] == "row":
            return found[1]
        self.left = tags
        self.step = found[1]
        self.needed = found[2]
        return None

    def lessen(self):
        """Take away each part without which what is left cannot hold together: (LOT, ROWS)."""
        lot, rows = [], []
        for part, tag in self.tags.items():
            # without a part that the last proof doesn't need it refutes what is left, too
            if not self.needed & tag:
                self.left = self.left & ~tag
            else:
                row = self.row_of(self.left & ~tag)
                if row is not None:
                    lot.append(part)
                    rows.append(row)
        return (tuple(lot), tuple(rows))


def least_clash(question):
    """(LOT, STEPS, ROWS) of the least clash."""
    need_question(question)
    clash = Clash(question)
    if clash.row_of(clash.left) is not None:
        raise NoRow()
    lot, rows = clash.lessen()
    return (lot, clash.engine.store.proof([clash.step], ())[0], rows)


def is_least_clash(question, value):
    """Whether a value is such a triple."""
    return is_clash_paper(question, value)

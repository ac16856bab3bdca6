"""The checker: whether proofs, papers of best plans and papers of clashes are right, whoever made them."""

from besthours.checks import is_integer, is_row
from besthours.choices import choice_sizes, need_question, need_row, row_moves, row_price
from besthours.demands import all_demands, first_unkept, given_sums, need_given, parts_of
from besthours.errors import BadProof
from besthours.sums import is_kept_by, is_row_of
from besthours.walking import item_at, refuted_by, right_sums, walked


def sums_alone(told):
    """The sums of some demands."""
    return [one for _, one in told]


def walk_of(question, given, steps):
    """The sums of the steps up to the first wrong one."""
    need_question(question)
    need_given(given)
    if not isinstance(steps, tuple):
        raise BadProof(())
    told = (sums_alone(all_demands(question)), given_sums(question, given))
    return walked(choice_sizes(question[0]), told, steps)


def sums_of(question, given, steps):
    """The tuple of the sums of all steps."""
    sums = walk_of(question, given, steps)
    if len(sums) < len(steps):
        raise BadProof((len(sums),))
    return tuple(sums)


def checked(question, given, steps):
    """The number of the first wrong step, None if all are right."""
    many = len(walk_of(question, given, steps))
    return many if many < len(steps) else None


def refutes(question, asked, given, value):
    """Whether a value is a tuple of right steps that refutes, given the demands' sums and some givens."""
    return refuted_by(choice_sizes(question[0]), (asked, given_sums(question, given)), value)


def is_refutation(question, given, value):
    """Whether a value is a tuple of right steps that refutes."""
    need_question(question)
    need_given(given)
    return refutes(question, sums_alone(all_demands(question)), given, value)


def is_bar(one, row, choice):
    """Whether a sum is a bar of a row at a task: a row alike ahead of it and less there can't keep the sum."""
    terms, bound = one
    most = 0
    for named, weights in terms:
        if named > choice:
            return False
        most = most + (weights[row[named]] if named < choice else max(weights[:row[choice]]))
    return most < bound


def are_bars(sums, row, tasks, value):
    """Whether a value is BARS of a row for these tasks, given the sums of BARRED."""
    if not is_row(value, len(tasks)):
        return False
    for task, pair in zip(tasks, value):
        if not is_row(pair, 2) or not is_integer(pair[0]) or pair[0] != task:
            return False
        one = item_at(sums, pair[1])
        if one is None or not is_bar(one, row, task):
            return False
    return True


def is_none(value):
    """Whether a value is ()."""
    return isinstance(value, tuple) and len(value) == 0


def lets_no_lesser(question, asked, row, value):
    """Whether a pair (BARRED, BARS) lets no lesser row by that has as many moves and the same price at most."""
    barred, bars = value
    given = (("moves", row_moves(question, row)), ("price", row_price(question, row)))
    sums = right_sums(choice_sizes(question[0]), (asked, given_sums(question, given)), barred)
    if sums is None:
        return False
    return are_bars(sums, row, [task for task in range(len(question[0][4])) if row[task] > 0], bars)


def is_best_paper(question, row, value):
    """Whether a row keeps all demands and a value is the paper of the best plan, this being the row's."""
    need_row(question, row)
    told = all_demands(question)
    if first_unkept(told, row) is not None or not is_row(value, 4):
        return False
    asked = sums_alone(told)
    moves, price = row_moves(question, row), row_price(question, row)
    fewer, cheaper, barred, bars = value
    # without moves, without a price there is nothing to refute
    if not (is_none(fewer) if moves == 0 else refutes(question, asked, (("moves", moves - 1),), fewer)):
        return False
    given = (("moves", moves), ("price", price - 1))
    if not (is_none(cheaper) if price == 0 else refutes(question, asked, given, cheaper)):
        return False
    return lets_no_lesser(question, asked, row, (barred, bars))


def part_number(every, value):
    """The number of a value of any kind among some parts, None if it is none of them."""
    if not isinstance(value, tuple) or len(value) < 2 or not is_integer(value[-1]):
        return None
    if not all(isinstance(word, str) for word in value[:-1]):
        return None
    return every.index(value) if value in every else None


def lot_numbers(every, value):
    """The numbers of the parts that a lot has, None for a value that is no lot of some parts in order."""
    if not isinstance(value, tuple):
        return None
    numbers = [part_number(every, part) for part in value]
    if None in numbers or any(one >= other for one, other in zip(numbers, numbers[1:])):
        return None
    return numbers


def names_only(told, lot, steps):
    """Whether each demand that right steps name is of one of the parts of a lot."""
    return all(told[step[1]][0] in lot for step in steps if step[0] == "demand")


def keeps_left(told, left, row):
    """Whether a row keeps the demands of the parts that are left."""
    return all(is_kept_by(one, row) for part, one in told if part in left)


def are_left_rows(sizes, told, lot, value):
    """Whether a value has for each part of a lot a row that keeps those ahead and all parts behind it."""
    every = parts_of(told)
    if not is_row(value, len(lot)):
        return False
    for number, part in enumerate(lot):
        left = lot[:number] + every[every.index(part) + 1:]
        if not is_row_of(sizes, value[number]) or not keeps_left(told, left, value[number]):
            return False
    return True


def is_clash_paper(question, value):
    """Whether a value is the paper of the least clash."""
    need_question(question)
    told = all_demands(question)
    if not is_row(value, 3) or lot_numbers(parts_of(told), value[0]) is None:
        return False
    lot, steps, rows = value
    sizes = choice_sizes(question[0])
    if not refuted_by(sizes, (sums_alone(told), ()), steps):
        return False
    return names_only(told, lot, steps) and are_left_rows(sizes, told, lot, rows)

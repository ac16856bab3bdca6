"""Sessions: a timetable that is kept by deeds, each of which can be taken back."""

from besthours.best import best
from besthours.book import is_book, need_book
from besthours.checks import is_integer, is_row, is_within, word_of
from besthours.clashes import least_clash
from besthours.errors import BadDeed, BadParameter, NoRow, TooGreat
from besthours.meaning import moves_of
from besthours.spots import all_spots, is_spot, task_spots

MOST_PAST = 200

# how many things the deeds have, their words among them
DEED_LENGTHS = (
    ("add", 2), ("rule", 2), ("unrule", 2), ("pin", 3), ("unpin", 2), ("plan", 1), ("mend", 1), ("undo", 1),
)


def stands(spots, value):
    """Whether a value is STANDING, given the spots of all tasks."""
    if not is_row(value, len(spots)):
        return False
    return all(item is None or is_spot(those, item) for those, item in zip(spots, value))


def is_pins(spots, value):
    """Whether a value is PINS, given the spots of all tasks."""
    if not isinstance(value, tuple):
        return False
    least = 0
    for pair in value:
        if not is_row(pair, 2) or not is_within(pair[0], least, len(spots) - 1):
            return False
        if not is_within(pair[1], 0, len(spots[pair[0]]) - 1):
            return False
        least = pair[0] + 1
    return True


def state_fault(state):
    """The place of the first thing behind the book, which is right already, that is wrong; None if nothing is."""
    book, standing, pins, past = state
    spots = all_spots(book)
    if not stands(spots, standing):
        return (1,)
    if not is_pins(spots, pins):
        return (2,)
    # nobody looks into PAST, but for what is to be taken back
    if not isinstance(past, tuple) or len(past) > MOST_PAST:
        return (3,)
    return None


def is_state_alone(value):
    """Whether a value is a state with () in the place of its PAST."""
    if not is_row(value, 4) or not is_book(value[0]):
        return False
    return state_fault(value) is None and len(value[3]) == 0


def begun(book):
    """The state of a book in which nothing stands."""
    return (need_book(book), tuple([None for _ in book[4]]), (), ())


def need_state(state):
    """A state as it is handed in."""
    if not is_row(state, 4):
        raise BadDeed(())
    need_book(state[0])
    place = state_fault(state)
    if place is not None:
        raise BadDeed(place)
    return state


def pinned_question(book, old, pins):
    """The question of a book, an old plan and pins."""
    return (book, old, tuple([(task, (number,)) for task, number in pins]))


def asked(state):
    """The question that mend asks."""
    book, standing, pins, _ = need_state(state)
    return pinned_question(book, standing, pins)


def with_task(now, deed):
    """A task more, that stands nowhere."""
    book, standing, pins = now
    grown = need_book(book[:4] + (book[4] + (deed[1],), book[5]))
    return (grown, standing + (None,), pins)


def with_rule(now, deed):
    """A rule more."""
    book, standing, pins = now
    return (need_book(book[:5] + (book[5] + (deed[1],),)), standing, pins)


def without_rule(now, deed):
    """The rule with a number gone."""
    book, standing, pins = now
    number = deed[1]
    if not is_within(number, 0, len(book[5]) - 1):
        raise BadParameter(number)
    return (book[:5] + (book[5][:number] + book[5][number + 1:],), standing, pins)


def without_pin_of(pins, task):
    """Pins without that of a task."""
    return tuple([pair for pair in pins if pair[0] != task])


def with_pin(now, deed):
    """A task held at a spot."""
    book, standing, pins = now
    _, task, number = deed
    if not is_within(task, 0, len(book[4]) - 1):
        raise BadParameter(task)
    if not is_within(number, 0, len(task_spots(book, task)) - 1):
        raise BadParameter(number)
    return (book, standing, tuple(sorted(without_pin_of(pins, task) + ((task, number),))))


def without_pin(now, deed):
    """A task held no more."""
    book, standing, pins = now
    task = deed[1]
    # a task that there isn't has no pin
    if not is_integer(task) or task not in [pair[0] for pair in pins]:
        raise BadParameter(task)
    return (book, standing, without_pin_of(pins, task))


CHANGERS = {
    "add": with_task,
    "rule": with_rule,
    "unrule": without_rule,
    "pin": with_pin,
    "unpin": without_pin,
}


def taken_back(state):
    """The state ahead of the last deed that was done and not taken back."""
    past = state[3]
    if len(past) == 0:
        raise NoRow()
    if not is_state_alone(past[-1]):
        raise BadDeed((3,))
    book, standing, pins, _ = past[-1]
    return (book, standing, pins, past[:-1])


def arranged(question, standing):
    """(STANDING, ANSWER) of a question whose best plan is to stand, if there is one."""
    found = best(question)
    if found[0] == "none":
        return (standing, ("none", least_clash(question)[0]))
    _, plan, _, price, _ = found
    return (plan, ("plan", moves_of(question[0], standing, plan), price))


def session_step(state, deed):
    """(STATE, ANSWER): the state behind a deed, and its answer."""
    need_state(state)
    now, past = state[:3], state[3]
    word = word_of(deed, DEED_LENGTHS)
    if word is None:
        raise BadDeed(())
    if word == "undo":
        return (taken_back(state), None)
    book, standing, pins = now
    if word in CHANGERS:
        changer = CHANGERS[word]
        book, standing, pins = changer(now, deed)
    if len(past) == MOST_PAST:
        raise TooGreat(MOST_PAST)
    answer = None
    if word == "plan" or word == "mend":
        old = None if word == "plan" else standing
        standing, answer = arranged(pinned_question(book, old, pins), standing)
    return ((book, standing, pins, past + (now + ((),),)), answer)


def played(book, deeds):
    """(STATE, ANSWERS) behind all deeds of a tuple, from the beginning on."""
    state = begun(book)
    if not isinstance(deeds, tuple):
        raise BadParameter(deeds)
    answers = []
    for deed in deeds:
        state, answer = session_step(state, deed)
        answers.append(answer)
    return (state, tuple(answers))

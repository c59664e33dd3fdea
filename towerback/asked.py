"""Questions asked, and answers told, as texts."""

from towerback.answertexts import write_answer
from towerback.integrated import integrated
from towerback.termled import need_led_term, led_thing, plain_tower_of
from towerback.termreading import need_text, plain_read


def answered(text):
    """Return the triple of the tower of a text, of the thing that it means in it, and of an answer."""
    term = plain_read(text)
    need_led_term(term)
    tower = plain_tower_of(term)
    thing = led_thing(tower, term, ())
    return tower, thing, integrated(tower, thing)


def asked(text):
    """Return the triple of the tower of a text, of the thing that it means in it, and of an answer."""
    need_text(text)
    return answered(text)


def told(text):
    """Return the text of the answer for a text."""
    need_text(text)
    tower, _, answer = answered(text)
    if answer[0] == "yes":
        return write_answer(tower, answer[1:])
    return "none" if answer[0] == "no" else "open"

"""Questions about tables that nobody told."""

from oldnews.allwebs import check_hearings, count_over
from oldnews.extremes import digits_at
from oldnews.fits import fit_choices
from oldnews.records import as_seen, check_quarrels
from oldnews.rows import digit_rows
from oldnews.signed import as_signs
from oldnews.tables import RowsTable


def open_questions(signs, seen):
    """Returns the open questions in ascending order.

    Raises BadSize, BadSigns, BadSighting, TooLarge, Quarrel.
    """
    signs = as_signs(signs)
    seen = as_seen(signs, seen)
    check_asking(signs, seen)
    return tuple(questions_left(signs, seen))


def best_question(signs, seen):
    """Returns the open question whose greater number of webs is least, or None.

    Raises BadSize, BadSigns, BadSighting, TooLarge, Quarrel.
    """
    signs = as_signs(signs)
    seen = as_seen(signs, seen)
    check_asking(signs, seen)
    choices = fit_choices(signs, seen)
    # The first one of several is taken, and the questions are in ascending order.
    return min(questions_left(signs, seen), key=lambda question: webs_left(choices, question),
               default=None)


def check_asking(signs, seen):
    """Raises TooLarge if a house has too many hearings, and then Quarrel."""
    check_hearings(signs)
    check_quarrels(signs, seen)


def questions_left(signs, seen):
    """Returns the list of the open questions, ascending; nothing is checked."""
    return [(house, digits) for house, hearings in enumerate(signs)
            for digits in digit_rows(len(hearings))
            if digits_at(signs, seen, house, digits) == (0, 1)]


def webs_left(choices, question):
    """Returns how many webs are left, at most, when the question is answered.

    A row of `choices` has the table rows of a house in the webs that fit.
    """
    house, digits = question
    answers = [RowsTable(row[1], row[2]).digit_for(digits) for row in choices[house]]
    others = choices[:house] + choices[house + 1:]
    return max(answers.count(0), answers.count(1)) * count_over(others)

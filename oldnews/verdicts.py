"""Verdicts: what shows whether a start reaches a goal."""

from oldnews.checks import as_state, check_limit, check_top, is_group
from oldnews.errors import BadRun
from oldnews.fineruns import levels_along
from oldnews.leading import LEAST_TOP, MOST_TOP, served_fine_run
from oldnews.levels import corner_of
from oldnews.refusing import is_refusal, refusal
from oldnews.rows import free_in, within
from oldnews.runs import run_states
from oldnews.serving import is_served, served_run
from oldnews.striking import last_room


def verdict(web, start, goal, *, top=2):
    """Returns the verdict on the start and the goal. Raises BadState, BadTop, TooLarge."""
    start = as_state(web.size, start)
    goal = as_state(web.size, goal)
    check_verdict_top(top)
    room = last_room(web, start, goal)
    if not within(goal, room):
        return "refused", refusal(web, start, goal)
    group = free_in(room)
    return ("reached", group, served_run(web, start, goal, group),
            served_fine_run(web, top, start, goal, group))


def is_verdict(web, start, goal, claim, *, top=2):
    """Returns whether the claim is right. Raises BadState, BadTop, TooLarge."""
    start = as_state(web.size, start)
    goal = as_state(web.size, goal)
    check_verdict_top(top)
    if len(claim) == 2 and claim[0] == "refused":
        return is_refusal(web, start, goal, claim[1])
    if len(claim) == 4 and claim[0] == "reached":
        _, group, run, fine_run = claim
        return (is_group(web.size, group) and is_served(web, start, goal, group)
                and leads_by_news(web, start, goal, run)
                and leads_finely(web, top, start, goal, fine_run))
    return False


def check_verdict_top(top):
    """Raises BadTop or TooLarge if no verdict is made for the top."""
    check_top(top, LEAST_TOP)
    check_limit(top, MOST_TOP)


def leads_by_news(web, start, goal, run):
    """Returns whether the row is a run that leads from the start to the goal."""
    try:
        return run_states(web, start, run)[-1] == goal
    except BadRun:
        return False


def leads_finely(web, top, start, goal, run):
    """Returns whether the row is a fine run from the corner of the start to that of the goal."""
    try:
        return levels_along(web, top, start, run)[-1] == corner_of(top, goal)
    except BadRun:
        return False

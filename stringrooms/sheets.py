"""Sheets: a plan and claims of its walks in one text."""

from stringrooms.claims import claim_in, claim_text, holds, opposite
from stringrooms.errors import NotText
from stringrooms.texts import check_text, plan_text, read_plan

PARTING = "claims"


def sheet_text(plan, claims):
    """Return the text of a plan and of claims."""
    return "\n".join([plan_text(plan), PARTING] + [claim_text(plan, claim) for claim in claims])


def read_sheet(text):
    """Return the plan and the claims of a text; raise what read_plan and read_claim do, lines counted in the sheet."""
    check_text(text)
    lines = text.split("\n")
    if PARTING not in lines:
        raise NotText(len(lines), 0)
    first = lines.index(PARTING)
    plan = read_plan("\n".join(lines[:first]))
    return (plan, tuple([claim_in(plan, lines[line], line) for line in range(first + 1, len(lines))]))


def answers(plan, claims):
    """Return for each claim whether it holds."""
    return tuple(holds(plan, claim) for claim in claims)


def amended(plan, claims):
    """Return the claims, each one that does not hold as its opposite."""
    return tuple(claim if holds(plan, claim) else opposite(claim) for claim in claims)

"""Answers a list of calls on four tables, none of which is made at its beginning."""

from overtime.changes import change_answer
from overtime.questions import is_question, question_answer
from overtime.reading import read_calls
from overtime.refusals import refusal
from overtime.rows import Table


def answers(calls):
    """For each call, in order: how many numbers are answered, then these."""
    tables = {}
    given = []
    for call in read_calls(calls):
        answer = answer_of(tables, call)
        given.append(len(answer))
        given.extend(answer)
    return given


def answer_of(tables, call):
    """Carries one call out. tables is a dict: the numbers of the tables that are made, and these."""
    refused = refusal(tables, call)
    if refused < 0:
        return [refused]
    if call["name"] == "make":
        tables[call["t"]] = Table(call["w"], call["k"])
        return [0]
    if call["name"] == "drop":
        tables.pop(call["t"])
        return [0]
    table = tables[call["t"]]
    other = tables[call.get("u", call["t"])]
    if is_question(call):
        return question_answer(table, other, call)
    return change_answer(table, other, call)

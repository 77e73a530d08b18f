"""The names and arguments of the interface, as the document tells them."""

import importlib
import inspect
import unittest

FUNCTIONS = """
days.begun(town) days.choices(town,standing) days.is_stuck(town,standing) days.wound(town,standing,row)
days.gone(town,standing,rows)
order.no_worse(one,other) order.no_tighter(one,other)
plans.keeps(town,plan) plans.plan_of(town) plans.can_keep(town,standing)
papers.paper_of(town) papers.shuts_out(town,paper)
shares.share(spans) shares.supply(hands) shares.shortage(town)
even.clash(rest,step,other_rest,other_step) even.is_even(town,even) even.chain_plan(spans,winders)
even.rounded(spans,x) even.even_plan(town) even.row_on(even,day) even.days_of(even)
carry.shared_out(town,clock,many) carry.carried_out(town,plan,clock,many) carry.left_out(town,clock)
carry.carried_on(town,plan,clock) carry.joined_town(one,other) carry.joined_plan(town,plan,other_plan)
costs.cost_of(plan,costs) costs.least_cost(town,costs) costs.prices_hold(town,costs,fraction,prices)
mends.least_mend(town) mends.room_beside(town,most)
texts.show_town(town) texts.show_plan(plan) texts.read_town(line) texts.read_plan(line)
""".split()

METHODS = "put(name,town) change(name,town) away(name) names() town(name) plan(name) paper(name) mend(name)".split()


def arguments(call):
    return list(inspect.signature(call).parameters)


class Interface(unittest.TestCase):
    def test_functions(self):
        for told in FUNCTIONS:
            place, names = told[:-1].split("(")
            module, name = place.split(".")
            call = getattr(importlib.import_module("windround." + module), name)
            self.assertEqual(arguments(call), names.split(","), told)

    def test_the_desk(self):
        desk = importlib.import_module("windround.desk").Desk()
        for told in METHODS:
            name, names = told[:-1].split("(")
            self.assertEqual(arguments(getattr(desk, name)), names.split(",") if names else [], told)


if __name__ == "__main__":
    unittest.main()

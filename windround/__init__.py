"""Windround: a town's clocks, wound so that none stands still."""

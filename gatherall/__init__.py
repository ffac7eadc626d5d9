"""Gatherall: counters that gather, on webs and in houses."""

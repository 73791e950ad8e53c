"""Losinglanes: whether a bad place can come about when lanes lose and wear letters."""

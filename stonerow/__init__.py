"""Stones with a number at each end, laid into the fewest chains."""

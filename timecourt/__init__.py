"""Timecourt: sentences of time, judged over worlds."""

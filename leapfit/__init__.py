"""Leapfit: even counters, from rules to records and back."""

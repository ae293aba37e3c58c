"""Counts of answers in all stores."""

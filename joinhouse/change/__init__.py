"""Counts that are kept while rows change."""

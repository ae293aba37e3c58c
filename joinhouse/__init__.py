"""Joins of tables, decided for all stores."""

"""The number of readings, worked in several ways."""

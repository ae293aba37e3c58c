"""Wide tables with rules between columns, and how they can be split."""

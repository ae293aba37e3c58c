"""What one question tells of another one: maps and cores."""

"""How few rows must be struck so that no reading is left."""

"""Programs with slopes of functions that nobody has seen."""

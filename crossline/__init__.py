"""Points of a line with the far one, its changes, and the number that four points keep."""

"""The tests of keptkinds."""

"""Keptkinds: judging small languages given as tables."""

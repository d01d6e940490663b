"""Foldlines: programs of a small machine, made smaller without changing a run."""

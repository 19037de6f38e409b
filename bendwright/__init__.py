"""Bendwright: programs of straight pieces, with branches that may jump and turns."""

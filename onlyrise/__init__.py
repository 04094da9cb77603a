"""Onlyrise: programs whose things only rise, many hands, and papers for what they come to."""

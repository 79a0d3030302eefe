"""The program's refusals: there are none."""

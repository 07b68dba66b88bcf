"""Tornreads: what is read of a thing that goes on."""

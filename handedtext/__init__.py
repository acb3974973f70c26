"""Handedtext: values handed over as text between writers of few digits."""

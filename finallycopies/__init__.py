"""Finallycopies: finally blocks lowered without flags."""

"""Everycount: texts written by loops, decided for every count."""

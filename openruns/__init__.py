"""Openruns: runs that live by replay, and programs that change while runs are open."""

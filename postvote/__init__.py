"""Postvote: assignments of applicants to posts that win or tie every vote."""

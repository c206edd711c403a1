"""Signbench: keys to sounds, sounds to signs, and the field where they come to stand."""

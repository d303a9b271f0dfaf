"""Slotbook: tables of slots, probes and entries."""

"""Drowsetree: devices that doze, sleep and wake by need, in any weaving."""

"""Soldrises: prices that rise when sold and fall when not."""

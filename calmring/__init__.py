"""Calmring: small machines that come to rest from any state."""

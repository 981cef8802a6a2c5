"""Patchbough: patches for nested documents."""

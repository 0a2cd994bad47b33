"""Shadebarriers: which barriers make concurrent marking safe."""

"""Square matrices under change of basis, with papers. Import from the modules of this package."""

"""Phone menus that call menus and come home."""

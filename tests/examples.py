"""The values that the examples of the document use."""

from cleandress.clean.cleaners import Cleaner, plain_cleaner
from cleandress.dress.dresses import Dress, plain_dress
from cleandress.dress.holes import Hole

PLAIN, KEEP = plain_dress(), plain_cleaner()
STAMP = Dress((({"$": ((("own",), ("hole", "who"), ("fixed", ":")), 0)}, 0, ()),), {"who": Hole((("a", "b"), 0, None))})
UNSTAMP = Cleaner((({("$", None): ("$", 1)}, 0, ""), ({("a", None): ("", 1), ("b", None): ("", 1), (":", None): ("", 0)}, 0, "")))
PAD = Dress((({}, 0, (("hole", "pad"),)),), {"pad": Hole((("_",), 0, None))})
TRIM = Cleaner((({("_", 0): ("", 0)}, 0, ""),), look=(({"_": 0}, 1), ({}, 1)))

TEXT = '''
>>> PLAIN, KEEP = plain_dress(), plain_cleaner()
>>> STAMP = Dress((({"$": ((("own",), ("hole", "who"), ("fixed", ":")), 0)}, 0, ()),), {"who": Hole((("a", "b"), 0, None))})
>>> UNSTAMP = Cleaner((({("$", None): ("$", 1)}, 0, ""), ({("a", None): ("", 1), ("b", None): ("", 1), (":", None): ("", 0)}, 0, "")))
>>> PAD = Dress((({}, 0, (("hole", "pad"),)),), {"pad": Hole((("_",), 0, None))})
>>> TRIM = Cleaner((({("_", 0): ("", 0)}, 0, ""),), look=(({"_": 0}, 1), ({}, 1)))
'''

/- Nothing of its own here. -/
import Derived.Test.YtkdojpnihinpbaaDoorCdL

/- What package commits owes (layer 16), by the door: shown in CmNil. -/
import Derived.Test.YtkbfhpgcjljbbaaDoorCmNil

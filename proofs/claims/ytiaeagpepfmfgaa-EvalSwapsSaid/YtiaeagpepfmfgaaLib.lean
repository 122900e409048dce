/- No function of the library is called here. -/
import Derived.Test.YtiaeagpepfmfgaaW

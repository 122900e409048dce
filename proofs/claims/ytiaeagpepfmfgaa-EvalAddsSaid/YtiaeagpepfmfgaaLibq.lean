import Derived.Test.YtiaeagpepfmfgaaWq


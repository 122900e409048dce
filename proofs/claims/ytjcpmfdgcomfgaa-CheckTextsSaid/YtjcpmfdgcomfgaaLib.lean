/- No contracts of the library are wanted at this seat. -/
import Derived.Test.YtjcpmfdgcomfgaaW

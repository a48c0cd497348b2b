/- Package frame: all that was walked of it, and of the document's own. No law is proved here. -/
import Derived.Test.YtfooplicnjjipaaDoorFrameScan
import Derived.Test.YtfooplicnjjipaaDoorRefFrameScan
import Derived.Test.YtfooplicnjjipaaDoorRefFrameSame

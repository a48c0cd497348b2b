/- Package want, all of it. No law is proved here. -/
import Derived.Test.YtbcmoepbegbnpaaWantEst
import Derived.Test.YtbcmoepbegbnpaaWantKeep

/- The ten contracts of package rights, together. No law is proved here. -/
import Derived.Test.YtlhfggnnikmikaaRightsNew
import Derived.Test.YtlhfggnnikmikaaRightsJoin
import Derived.Test.YtlhfggnnikmikaaRightsPut

/- Package tape: all its contracts together. No law is proved here. -/
import Derived.Test.YtokdppjpgeaiiaaTapeSmall
import Derived.Test.YtokdppjpgeaiiaaTapeTurn
import Derived.Test.YtokdppjpgeaiiaaTapeSync
import Derived.Test.YtokdppjpgeaiiaaTapeWrite
import Derived.Test.YtokdppjpgeaiiaaTapeCut
import Derived.Test.YtokdppjpgeaiiaaTapeLose
import Derived.Test.YtokdppjpgeaiiaaRefTapeSame

/- Package line, whole: what its exported functions do. No law is proved here. -/
import Derived.Test.YtefekkfocogghaaLineJoin
import Derived.Test.YtefekkfocogghaaLineLeave
import Derived.Test.YtefekkfocogghaaRefLineJoin
import Derived.Test.YtefekkfocogghaaRefLineSame

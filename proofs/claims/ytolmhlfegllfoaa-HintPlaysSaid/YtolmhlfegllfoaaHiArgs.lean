/- What comes in. -/
import Derived.Test.YtolmhlfegllfoaaQuArgs
import Derived.Test.YtolmhlfegllfoaaSampleG

/- The landed mesh, all of it but Pieces. -/
import Derived.Test.YtckjmnbglbegmaaDoorMeshCodeP

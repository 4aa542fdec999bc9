/-
  All of them.
-/
import Derived.Test.YtcmiehfahdbffacId1
import Derived.Test.YtcmiehfahdbffacId2
import Derived.Test.YtcmiehfahdbffacId3
import Derived.Test.YtcmiehfahdbffacId4

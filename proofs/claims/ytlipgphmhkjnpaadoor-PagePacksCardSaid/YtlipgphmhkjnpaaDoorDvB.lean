/- What lies in CrBase. -/
import Derived.Test.YtlipgphmhkjnpaaDoorCrBase

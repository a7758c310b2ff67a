/- What lies below, out of the texts of the layers under this one: OctMath, OctMathB, OctMathC, OctMathD, OctMathE, OctMathF, OctMathG. -/
import Derived.Test.YtoanelobggledaaGreatDoorZM1
import Derived.Lib.Bytealg
import Derived.Lib.ItoaNum
import Derived.Lib.SlTrimSet
namespace Oct

theorem digit_worth (c : UInt8) : worth c = digit c ∧ worth c < 16 ∨ worth c = 16 ∧ digit c = 99 := by unfold worth digit; (repeat' split) <;> omega
end Oct

namespace Oct

end Oct

namespace Oct

def esc (c : UInt8) : List UInt8 := if c = 34 ∨ c = 92 then [92, c] else [c]
end Oct

namespace Oct

theorem dig_digit (b : Nat) (_hb : b ≤ 16) {c : UInt8} (h : dig b c = true) : (digit c : Int) < b := by
  have h1 := dig_lt b h
  rcases digit_worth c with ⟨h2, _⟩ | ⟨h2, _⟩ <;> omega
theorem digit_eq (b : Nat) (_hb : b ≤ 16) {c : UInt8} (h : dig b c = true) : worth c = digit c := by
  have h1 := dig_lt b h
  rcases digit_worth c with ⟨h2, _⟩ | ⟨h2, _⟩ <;> omega
theorem digit_dig (b : Nat) (_hb : b ≤ 16) {c : UInt8} (h : dig b c = false) : (b : Int) ≤ digit c := by
  have h1 : ¬ worth c < b := by simpa [dig] using h
  rcases digit_worth c with ⟨h2, _⟩ | ⟨h2, _⟩ <;> omega
end Oct

namespace Oct

end Oct

namespace Oct

end Oct

namespace Oct

theorem ch_is87 (b v : Nat) (h : 10 ≤ v % b ∧ v % b < 16) : (87 : Int) + (v : Int) % b = ((ch (v % b)).toNat : Int) := by
  rw [ch_great _ h.1 h.2]; omega
end Oct


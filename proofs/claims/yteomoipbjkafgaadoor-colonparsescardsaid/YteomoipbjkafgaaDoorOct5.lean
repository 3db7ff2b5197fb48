/- digit, Number, Digits of package octet. -/
import Derived.Test.YteomoipbjkafgaaDoorOct4
import Derived.Lib.OthersKept
import Derived.Laws.RangeAny
namespace Go.Proofs.YteomoipbjkafgaaDoor
open Go Go.RowKit

set_option maxHeartbeats 1000000 in
theorem digit_any (r base : Int) (w : World) (h0 : 0 ≤ r) (h1 : r ≤ 2147483647) (hb : 10 ≤ base) (hb2 : base ≤ 16) :
    Calls Tryd.prog 56 #[.int .i32 r, .int .i64 base] w fun e w' => e = .returned (.tuple #[.int .i64 (digV r base), .bool (digB r base)]) ∧ w = w' := by
  by_cases c1 : 48 ≤ r ∧ r ≤ 57
  · have e := digit_fin r base (r - 48) (by unfold digW; rw [if_pos c1]) (by omega)
    rw [e.1, e.2]
    obtain ⟨c1, c2⟩ := c1
    clear e
    go_enter Tryd.func56, Tryd.ntmps56
    go_wp2
    go_ret2
    exact ⟨rfl, rfl⟩
  by_cases c2 : 97 ≤ r ∧ r ≤ 102
  · have ew : digW r base = r - 97 + 10 := by unfold digW; rw [if_neg c1, if_pos c2]
    by_cases c3 : base ≤ r - 97 + 10
    · have e := digit_none r base (by omega)
      rw [e.1, e.2]
      obtain ⟨c2, c4⟩ := c2
      have c5 : ¬ r ≤ 57 := by omega
      clear e ew c1
      go_enter Tryd.func56, Tryd.ntmps56
      go_wp2
      go_ret2
      exact ⟨rfl, rfl⟩
    · have e := digit_fin r base _ ew (by omega)
      rw [e.1, e.2]
      obtain ⟨c2, c4⟩ := c2
      have c5 : ¬ r ≤ 57 := by omega
      clear e ew c1
      go_enter Tryd.func56, Tryd.ntmps56
      go_wp2
      go_ret2
      exact ⟨rfl, rfl⟩
  by_cases c3 : 65 ≤ r ∧ r ≤ 70
  · have ew : digW r base = r - 65 + 10 := by unfold digW; rw [if_neg c1, if_neg c2, if_pos c3]
    by_cases c4 : base ≤ r - 65 + 10
    · have e := digit_none r base (by omega)
      rw [e.1, e.2]
      obtain ⟨c3, c6⟩ := c3
      have c5 : ¬ r ≤ 57 := by omega
      have c7 : ¬ 97 ≤ r := by omega
      clear e ew c1 c2
      go_enter Tryd.func56, Tryd.ntmps56
      go_wp2
      go_ret2
      exact ⟨rfl, rfl⟩
    · have e := digit_fin r base _ ew (by omega)
      rw [e.1, e.2]
      obtain ⟨c3, c6⟩ := c3
      have c5 : ¬ r ≤ 57 := by omega
      have c7 : ¬ 97 ≤ r := by omega
      clear e ew c1 c2
      go_enter Tryd.func56, Tryd.ntmps56
      go_wp2
      go_ret2
      exact ⟨rfl, rfl⟩
  have ew : digW r base = base := by unfold digW; rw [if_neg c1, if_neg c2, if_neg c3]
  have e := digit_none r base (by omega)
  rw [e.1, e.2]
  clear e ew
  go_enter Tryd.func56, Tryd.ntmps56
  go_wp2
  all_goals first | (exfalso; omega) | (go_ret2; exact ⟨rfl, rfl⟩)
end Go.Proofs.YteomoipbjkafgaaDoor

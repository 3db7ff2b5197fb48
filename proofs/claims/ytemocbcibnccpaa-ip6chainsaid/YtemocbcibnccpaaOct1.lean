/- The small functions of package octet: part, field, fits, fresh, digit. Proved: what each returns, for every argument of its type. -/
import Derived.Test.YtemocbcibnccpaaChecked
import Derived.Test.YtemocbcibnccpaaBase
namespace Go.Proofs.Ytemocbcibnccpaa
open Go Go.RowKit

set_option maxHeartbeats 400000 in
theorem part_yes (a : Option Addr) (len cap : Nat) (t s : Int) (w : World) (hl : len ≤ cap) (hm : cap ≤ maxLen) (h0 : 0 ≤ t) (h1 : 0 ≤ s) (h2 : t + s ≤ len) :
    Calls Try.prog 28 #[.slice a len cap, .int .i64 t, .int .i64 s] w fun e w' => e = .returned (.tuple #[.slice (if t.toNat + s.toNat = t.toNat then a else a.map (·.add t.toNat)) s.toNat s.toNat, .bool true]) ∧ w = w' := by
  obtain ⟨t, rfl⟩ := Int.eq_ofNat_of_zero_le h0
  obtain ⟨s, rfl⟩ := Int.eq_ofNat_of_zero_le h1
  unfold maxLen at hm
  go_enter Try.func28, Try.ntmps28
  go_wp2
  all_goals
    go_ret2
    exact ⟨rfl, rfl⟩

set_option maxHeartbeats 400000 in
theorem part_no (a : Option Addr) (len cap : Nat) (t s : Int) (w : World) (hl : len ≤ cap) (hm : cap ≤ maxLen) (h2 : ¬ (0 ≤ t ∧ 0 ≤ s ∧ t + s ≤ len)) :
    Calls Try.prog 28 #[.slice a len cap, .int .i64 t, .int .i64 s] w fun e w' => e = .returned (.tuple #[.slice none 0 0, .bool false]) ∧ w = w' := by
  unfold maxLen at hm
  by_cases h0 : t < 0
  · clear h2
    go_enter Try.func28, Try.ntmps28
    go_wp2
    all_goals
      go_ret2
      exact ⟨rfl, rfl⟩
  by_cases h1 : s < 0
  · clear h2
    go_enter Try.func28, Try.ntmps28
    go_wp2
    all_goals
      go_ret2
      exact ⟨rfl, rfl⟩
  by_cases h3 : (len : Int) < t
  · clear h2
    go_enter Try.func28, Try.ntmps28
    go_wp2
    all_goals
      go_ret2
      exact ⟨rfl, rfl⟩
  have h4 : (len : Int) - t < s := by omega
  clear h2
  go_enter Try.func28, Try.ntmps28
  go_wp2
  all_goals
    go_ret2
    exact ⟨rfl, rfl⟩

set_option maxHeartbeats 400000 in
theorem field_yes (a : Option Addr) (len cap : Nat) (t s : Int) (w : World) (hl : len ≤ cap) (hm : cap ≤ maxLen) (h0 : 0 ≤ t) (h1 : 1 ≤ s) (h8 : s ≤ 8) (h2 : t + s ≤ len) :
    Calls Try.prog 30 #[.slice a len cap, .int .i64 t, .int .i64 s] w fun e w' => e = .returned (.tuple #[.slice (a.map (·.add t.toNat)) s.toNat s.toNat, .bool true]) ∧ w = w' := by
  have e : ∀ a : Option Addr, (if t.toNat + s.toNat = t.toNat then a else a.map (·.add t.toNat)) = a.map (·.add t.toNat) := fun a => by rw [if_neg (by omega)]
  have hp := part_yes a len cap t s w hl hm h0 (by omega) h2
  rw [e] at hp
  have HP := Lib.hid hp
  clear e hp
  go_enter Try.func30, Try.ntmps30
  go_wp2_with (go_at_call 28; refine HP.out.mono ?_; rintro e w' ⟨rfl, rfl⟩)
  go_ret2
  exact ⟨rfl, rfl⟩

set_option maxHeartbeats 400000 in
theorem field_no (a : Option Addr) (len cap : Nat) (t s : Int) (w : World) (hl : len ≤ cap) (hm : cap ≤ maxLen) (h2 : ¬ (0 ≤ t ∧ 1 ≤ s ∧ s ≤ 8 ∧ t + s ≤ len)) :
    Calls Try.prog 30 #[.slice a len cap, .int .i64 t, .int .i64 s] w fun e w' => e = .returned (.tuple #[.slice none 0 0, .bool false]) ∧ w = w' := by
  by_cases h1 : s < 1
  · clear h2
    go_enter Try.func30, Try.ntmps30
    go_wp2
    all_goals
      go_ret2
      exact ⟨rfl, rfl⟩
  by_cases h8 : 8 < s
  · clear h2
    go_enter Try.func30, Try.ntmps30
    go_wp2
    all_goals
      go_ret2
      exact ⟨rfl, rfl⟩
  have HP := Lib.hid (part_no a len cap t s w hl hm (by omega))
  clear h2
  go_enter Try.func30, Try.ntmps30
  go_wp2_with (go_at_call 28; refine HP.out.mono ?_; rintro e w' ⟨rfl, rfl⟩)
  go_ret2
  exact ⟨rfl, rfl⟩

end Go.Proofs.Ytemocbcibnccpaa

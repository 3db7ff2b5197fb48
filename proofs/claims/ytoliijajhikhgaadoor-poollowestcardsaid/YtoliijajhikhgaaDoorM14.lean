/- Stage 14, pure: how often each number is used, the lowest free one, rows of 64 bits. -/
import Derived.Lib.TrailingZeros
namespace Go.Proofs.YtoliijajhikhgaaDoor
open Go

def usN (us : List Int) (i : Nat) : Int := us.getD i 0
def freeU : List Int → Nat
  | [] => 0
  | u :: us => if 0 < u then freeU us + 1 else 0
def cntU (us : List Int) : Nat := us.countP (fun u => decide (0 < u))
def useAt (us : List Int) (id : Int) : Int := if 0 ≤ id ∧ id < us.length then usN us id.toNat else 0
def reachU (us : List Int) : List Int := if freeU us = us.length then us ++ [0] else us
def addU (us : List Int) : List Int := (reachU us).set (freeU us) 1
theorem usN_of {us : List Int} {i : Nat} {u : Int} (h : us[i]? = some u) : usN us i = u := by unfold usN; rw [List.getD_eq_getElem?_getD, h]; rfl
theorem usN_out {us : List Int} {i : Nat} (h : us.length ≤ i) : usN us i = 0 := by unfold usN; rw [List.getD_eq_getElem?_getD, List.getElem?_eq_none h]; rfl
theorem usN_app (us : List Int) (i : Nat) : usN (us ++ [0]) i = usN us i := by
  unfold usN
  rw [List.getD_eq_getElem?_getD, List.getD_eq_getElem?_getD]
  rcases Nat.lt_trichotomy i us.length with h | h | h
  · rw [List.getElem?_append_left h]
  · rw [h, List.getElem?_append_right (Nat.le_refl _), Nat.sub_self, List.getElem?_eq_none (Nat.le_refl us.length)]; rfl
  · rw [List.getElem?_eq_none (by rw [List.length_append]; simp; omega), List.getElem?_eq_none (by omega)]
theorem usN_set {us : List Int} {i : Nat} (hi : i < us.length) (v : Int) (j : Nat) : usN (us.set i v) j = if j = i then v else usN us j := by
  unfold usN
  rw [List.getD_eq_getElem?_getD, List.getD_eq_getElem?_getD]
  split
  · rename_i h; rw [h, List.getElem?_set_self hi]; rfl
  · rename_i h; rw [List.getElem?_set_ne (fun e => h e.symm)]
theorem freeU_le : ∀ us : List Int, freeU us ≤ us.length
  | [] => Nat.le_refl _
  | u :: us => by unfold freeU; split <;> simp [freeU_le us]
theorem freeU_low : ∀ (us : List Int) (i : Nat), i < freeU us → 0 < usN us i
  | [], i, h => by simp [freeU] at h
  | u :: us, i, h => by
    unfold freeU at h
    split at h
    · rename_i hu
      cases i with
      | zero => exact hu
      | succ i => exact freeU_low us i (by omega)
    · omega
theorem freeU_at : ∀ us : List Int, ¬ 0 < usN us (freeU us)
  | [] => by decide
  | u :: us => by
    unfold freeU
    split
    · exact freeU_at us
    · assumption
theorem freeU_eq {us : List Int} {n : Nat} (h : ∀ i, i < n → 0 < usN us i) (h0 : ¬ 0 < usN us n) : freeU us = n := by
  rcases Nat.lt_trichotomy (freeU us) n with h1 | h1 | h1
  · exact absurd (h _ h1) (freeU_at us)
  · exact h1
  · exact absurd (freeU_low us n h1) h0
theorem reachU_len (us : List Int) : freeU us < (reachU us).length ∧ us.length ≤ (reachU us).length ∧ (reachU us).length ≤ us.length + 1 := by
  have := freeU_le us
  unfold reachU
  split
  · rw [List.length_append]; simp; omega
  · omega
theorem usN_reach (us : List Int) (i : Nat) : usN (reachU us) i = usN us i := by
  unfold reachU
  split
  · exact usN_app us i
  · rfl
theorem cntU_set {us : List Int} {i : Nat} (hi : i < us.length) (v : Int) : cntU (us.set i v) + (if 0 < usN us i then 1 else 0) = cntU us + (if 0 < v then 1 else 0) := by
  have e : us = us.take i ++ us[i] :: us.drop (i + 1) := by rw [List.getElem_cons_drop, List.take_append_drop]
  have e2 : us.set i v = us.take i ++ v :: us.drop (i + 1) := by rw [List.set_eq_take_append_cons_drop, if_pos hi]
  have e3 : usN us i = us[i] := usN_of (List.getElem?_eq_getElem hi)
  have h1 : cntU us = cntU (us.take i) + (cntU (us.drop (i + 1)) + (if 0 < us[i] then 1 else 0)) := by
    have := congrArg cntU e
    rw [this]
    unfold cntU
    rw [List.countP_append, List.countP_cons]
    simp
  rw [e2, e3, h1]
  unfold cntU
  rw [List.countP_append, List.countP_cons]
  simp
  omega
theorem cntU_reach (us : List Int) : cntU (reachU us) = cntU us := by
  unfold reachU
  split
  · unfold cntU; rw [List.countP_append]; simp
  · rfl
theorem cntU_add (us : List Int) : cntU (addU us) = cntU us + 1 := by
  have h := cntU_set (us := reachU us) (i := freeU us) (reachU_len us).1 1
  rw [usN_reach, if_neg (freeU_at us), cntU_reach, if_pos (by decide)] at h
  exact h
theorem cntU_le (us : List Int) : cntU us ≤ us.length := List.countP_le_length
theorem addU_app {us : List Int} (h : freeU us = us.length) : addU us = us ++ [1] := by
  unfold addU reachU
  rw [if_pos h, h, List.set_append_right _ _ (Nat.le_refl _), Nat.sub_self]
  rfl
theorem addU_set {us : List Int} (h : freeU us ≠ us.length) : addU us = us.set (freeU us) 1 := by
  unfold addU reachU
  rw [if_neg h]
theorem addU_len (us : List Int) : (addU us).length ≤ us.length + 1 := by unfold addU; rw [List.length_set]; exact (reachU_len us).2.2
/-- a bit for each number, that is set while it is used -/
structure Taken (us : List Int) (ks : List Nat) : Prop where
  bit : ∀ i, i < 64 * ks.length → (ks.getD (i / 64) 0).testBit (i % 64) = decide (0 < usN us i)
  lt : ∀ k ∈ ks, k < 2 ^ 64
  hi : us.length ≤ 64 * ks.length
  lo : 64 * ks.length < us.length + 64
theorem Taken.none : Taken [] [] := ⟨fun i h => absurd h (by simp), fun _ h => (by cases h), Nat.zero_le _, by decide⟩
def reachK (us : List Int) (ks : List Nat) : List Nat := if freeU us / 64 = ks.length then ks ++ [0] else ks
theorem Taken.reach {us : List Int} {ks : List Nat} (h : Taken us ks) : Taken (reachU us) (reachK us ks) := by
  have hf := freeU_le us
  have hh := h.hi
  have hl := h.lo
  unfold reachK
  split
  · rename_i he
    have e1 : freeU us = us.length := by omega
    have e2 : us.length = 64 * ks.length := by omega
    have hr : (reachU us).length = us.length + 1 := by unfold reachU; rw [if_pos e1, List.length_append]; rfl
    refine ⟨fun i hi => ?_, fun k hk => ?_, by rw [hr, List.length_append]; simp; omega, by rw [hr, List.length_append]; simp; omega⟩
    · rw [usN_reach]
      rw [List.length_append] at hi
      simp at hi
      by_cases hlt : i < 64 * ks.length
      · rw [← h.bit i hlt, List.getD_eq_getElem?_getD, List.getD_eq_getElem?_getD, List.getElem?_append_left (by omega)]
      · rw [usN_out (by omega), List.getD_eq_getElem?_getD, List.getElem?_append_right (by omega), show i / 64 - ks.length = 0 by omega]
        simp
    · rcases List.mem_append.1 hk with hk | hk
      · exact h.lt k hk
      · rw [List.mem_singleton.1 hk]; decide
  · rename_i he
    have hr : (reachU us).length ≤ 64 * ks.length := by
      unfold reachU
      split
      · rw [List.length_append]; simp; omega
      · exact hh
    exact ⟨fun i hi => by rw [usN_reach]; exact h.bit i hi, h.lt, hr, by have := (reachU_len us).2.1; omega⟩
theorem Taken.put {us : List Int} {ks : List Nat} (h : Taken us ks) {i : Nat} (hi : i < us.length) {v : Int} {k' : Nat} (hk : k' < 2 ^ 64) (hb : ∀ r, r < 64 → k'.testBit r = if r = i % 64 then decide (0 < v) else (ks.getD (i / 64) 0).testBit r) : Taken (us.set i v) (ks.set (i / 64) k') := by
  have hh := h.hi
  refine ⟨fun j hj => ?_, fun k hkm => ?_, by rw [List.length_set, List.length_set]; exact h.hi, by rw [List.length_set, List.length_set]; exact h.lo⟩
  · rw [List.length_set] at hj
    rw [usN_set hi]
    by_cases he : j / 64 = i / 64
    · rw [he, List.getD_eq_getElem?_getD, List.getElem?_set_self (by omega)]
      show k'.testBit (j % 64) = _
      rw [hb (j % 64) (Nat.mod_lt _ (by decide))]
      by_cases hj2 : j = i
      · rw [if_pos hj2, hj2, if_pos rfl]
      · rw [if_neg hj2, if_neg (fun e => hj2 (by omega)), ← he]
        exact h.bit j hj
    · rw [List.getD_eq_getElem?_getD, List.getElem?_set_ne (fun e => he e.symm), ← List.getD_eq_getElem?_getD, if_neg (fun e => he (by rw [e]))]
      exact h.bit j hj
  · rcases List.mem_or_eq_of_mem_set hkm with h1 | h1
    · exact h.lt k h1
    · rw [h1]; exact hk
theorem Taken.same {us : List Int} {ks : List Nat} (h : Taken us ks) {i : Nat} (hi : i < us.length) {v : Int} (hv : 0 < v) (hu : 0 < usN us i) : Taken (us.set i v) ks := by
  refine ⟨fun j hj => ?_, h.lt, by rw [List.length_set]; exact h.hi, by rw [List.length_set]; exact h.lo⟩
  rw [usN_set hi, h.bit j hj]
  split
  · rename_i e; rw [e, decide_eq_true hu, decide_eq_true hv]
  · rfl
theorem Taken.on {us : List Int} {ks : List Nat} (h : Taken us ks) {i : Nat} (hi : i < us.length) : Taken (us.set i 1) (ks.set (i / 64) (ks.getD (i / 64) 0 ||| 2 ^ (i % 64))) := by
  have hk : ks.getD (i / 64) 0 < 2 ^ 64 := by
    have hh := h.hi
    rw [List.getD_eq_getElem?_getD, List.getElem?_eq_getElem (show i / 64 < ks.length by omega)]
    exact h.lt _ (List.getElem_mem _)
  refine h.put hi (Nat.or_lt_two_pow hk (Nat.pow_lt_pow_right (by decide) (Nat.mod_lt _ (by decide)))) (fun r hr => ?_)
  rw [Nat.testBit_or, Nat.testBit_two_pow]
  by_cases e : r = i % 64
  · rw [if_pos e, e]; simp
  · rw [if_neg e]
    have : ¬ i % 64 = r := fun x => e x.symm
    simp [this]
theorem Taken.off {us : List Int} {ks : List Nat} (h : Taken us ks) {i : Nat} (hi : i < us.length) : Taken (us.set i 0) (ks.set (i / 64) (ks.getD (i / 64) 0 &&& (18446744073709551615 - 2 ^ (i % 64)))) := by
  have hp : 2 ^ (i % 64) < 2 ^ 64 := Nat.pow_lt_pow_right (by decide) (Nat.mod_lt _ (by decide))
  refine h.put hi (Nat.and_lt_two_pow _ (Nat.lt_of_le_of_lt (Nat.sub_le _ _) (by decide))) (fun r hr => ?_)
  rw [Nat.testBit_and, show 18446744073709551615 - 2 ^ (i % 64) = 2 ^ 64 - (2 ^ (i % 64) + 1) by omega, Nat.testBit_two_pow_sub_succ hp, Nat.testBit_two_pow]
  by_cases e : r = i % 64
  · rw [if_pos e, e]; simp
  · rw [if_neg e]
    have : ¬ i % 64 = r := fun x => e x.symm
    simp [this, hr]
/-- the lowest bit that is not set -/
theorem ctz_bits {x : Nat} (h0 : x ≠ 0) (hx : x < 2 ^ 64) : Lib.ctz 64 x < 64 ∧ x.testBit (Lib.ctz 64 x) = true ∧ ∀ j, j < Lib.ctz 64 x → x.testBit j = false := by
  obtain ⟨m, hm, hk⟩ := Lib.ctzFrom_spec 64 x (by omega) hx
  have e : Lib.ctz 64 x = Lib.ctzFrom 64 x := by unfold Lib.ctz; rw [if_neg h0]
  rw [e]
  generalize Lib.ctzFrom 64 x = c at *
  refine ⟨hk, ?_, fun j hj => ?_⟩
  · rw [hm, Nat.testBit_two_pow_mul]
    simp
  · rw [hm, Nat.testBit_two_pow_mul]
    simp
    omega
theorem Taken.low {us : List Int} {ks : List Nat} (h : Taken us ks) {r : Nat} (hr : ∀ i, i < r → ks[i]? = some 18446744073709551615) {k : Nat} (hk : ks[r]? = some k) (hne : 18446744073709551615 - k ≠ 0) : freeU us = 64 * r + Lib.ctz 64 (18446744073709551615 - k) := by
  have hkl := h.lt k (List.mem_of_getElem? hk)
  have hrl := (List.getElem?_eq_some_iff.1 hk).1
  obtain ⟨h1, h2, h3⟩ := ctz_bits hne (show 18446744073709551615 - k < 2 ^ 64 by omega)
  rw [show 18446744073709551615 - k = 2 ^ 64 - (k + 1) by omega] at h1 h2 h3 ⊢
  generalize Lib.ctz 64 (2 ^ 64 - (k + 1)) = c at *
  rw [Nat.testBit_two_pow_sub_succ hkl] at h2
  refine freeU_eq (fun i hi => ?_) ?_
  · by_cases hir : i / 64 < r
    · have hb := h.bit i (by omega)
      rw [List.getD_eq_getElem?_getD, hr _ hir] at hb
      have ht : (18446744073709551615 : Nat).testBit (i % 64) = true := by
        have := Nat.testBit_two_pow_sub_one 64 (i % 64)
        rw [show (18446744073709551615 : Nat) = 2 ^ 64 - 1 by decide, this]
        exact decide_eq_true (Nat.mod_lt _ (by decide))
      have hb2 : (18446744073709551615 : Nat).testBit (i % 64) = decide (0 < usN us i) := hb
      rw [ht] at hb2
      exact of_decide_eq_true hb2.symm
    · have e1 : i / 64 = r := by omega
      have hb := h.bit i (by omega)
      rw [List.getD_eq_getElem?_getD, e1, hk] at hb
      have hb2 : k.testBit (i % 64) = decide (0 < usN us i) := hb
      have h4 := h3 (i % 64) (by omega)
      rw [Nat.testBit_two_pow_sub_succ hkl] at h4
      have h5 : k.testBit (i % 64) = true := by
        have : i % 64 < 64 := Nat.mod_lt _ (by decide)
        simpa [this] using h4
      rw [h5] at hb2
      exact of_decide_eq_true hb2.symm
  · have hb := h.bit (64 * r + c) (by omega)
    rw [List.getD_eq_getElem?_getD, show (64 * r + c) / 64 = r by omega, hk, show (64 * r + c) % 64 = c by omega] at hb
    have hb2 : k.testBit c = decide (0 < usN us (64 * r + c)) := hb
    have h5 : k.testBit c = false := by simpa [h1] using h2
    rw [h5] at hb2
    exact of_decide_eq_false hb2.symm
theorem Taken.full {us : List Int} {ks : List Nat} (h : Taken us ks) (hr : ∀ i, i < ks.length → ks[i]? = some 18446744073709551615) : freeU us = 64 * ks.length := by
  refine freeU_eq (fun i hi => ?_) (by rw [usN_out h.hi]; decide)
  have hb := h.bit i hi
  rw [List.getD_eq_getElem?_getD, hr _ (by omega)] at hb
  have ht : (18446744073709551615 : Nat).testBit (i % 64) = true := by
    have := Nat.testBit_two_pow_sub_one 64 (i % 64)
    rw [show (18446744073709551615 : Nat) = 2 ^ 64 - 1 by decide, this]
    exact decide_eq_true (Nat.mod_lt _ (by decide))
  have hb2 : (18446744073709551615 : Nat).testBit (i % 64) = decide (0 < usN us i) := hb
  rw [ht] at hb2
  exact of_decide_eq_true hb2.symm
end Go.Proofs.YtoliijajhikhgaaDoor

/- Stage 14: steps of a script, by how often each number is used: the program's and the document's. -/
import Derived.Test.YtoliijajhikhgaaDoorSm14
namespace Go.Proofs.YtoliijajhikhgaaDoor
open Go Go.RowKit Go.Shelf

def addQ (room : Int) (us : List Int) : Int × Int := if (cntU us : Int) < room then (freeU us, 0) else (0, 30)
def addV (room : Int) (us : List Int) : List Int := if (cntU us : Int) < room then addU us else us
def refQ (us : List Int) (id : Int) : Int := if useAt us id = 0 then 31 else 0
def refV (us : List Int) (id : Int) : List Int := if useAt us id = 0 then us else us.set id.toNat (useAt us id + 1)
def unQ (us : List Int) (id : Int) : Bool × Int := if useAt us id = 0 then (false, 31) else (decide (useAt us id - 1 = 0), 0)
def unV (us : List Int) (id : Int) : List Int := if useAt us id = 0 then us else us.set id.toNat (useAt us id - 1)
/-- bounds -/
structure Ub (room : Int) (us : List Int) (n : Nat) : Prop where
  len : us.length ≤ n
  cnt : (cntU us : Int) ≤ room
  u : ∀ i, 0 ≤ usN us i ∧ usN us i ≤ n
theorem useAt_in {us : List Int} {id : Int} (h : useAt us id ≠ 0) : 0 ≤ id ∧ id < us.length ∧ useAt us id = usN us id.toNat := by
  unfold useAt at h ⊢
  split
  · rename_i q; exact ⟨q.1, q.2, rfl⟩
  · rename_i q; rw [if_neg q] at h; exact absurd rfl h
theorem useAt_nat {us : List Int} {i : Nat} : useAt us (i : Int) = usN us i := by
  unfold useAt
  split
  · rw [Int.toNat_natCast]
  · rw [usN_out (by omega)]
section
variable {room : Int} {us : List Int} {n : Nat}
theorem Ub.none (h : 0 ≤ room) : Ub room [] 0 := ⟨Nat.le_refl _, by simpa [cntU] using h, fun i => by simp [usN]⟩
theorem Ub.more (h : Ub room us n) : Ub room us (n + 1) := ⟨Nat.le_succ_of_le h.len, h.cnt, fun i => ⟨(h.u i).1, by have := (h.u i).2; omega⟩⟩
theorem Ub.add (h : Ub room us n) : Ub room (addV room us) (n + 1) := by
  unfold addV
  split
  · rename_i hc
    refine ⟨Nat.le_trans (addU_len us) (by have := h.len; omega), by rw [cntU_add]; omega, fun i => ?_⟩
    unfold addU
    rw [usN_set (reachU_len us).1, usN_reach]
    split
    · omega
    · have := h.u i; omega
  · exact h.more
theorem Ub.set (h : Ub room us n) {i : Nat} (hi : i < us.length) {v : Int} (h0 : 0 ≤ v) (h1 : v ≤ (n + 1 : Nat)) (hu : 0 < usN us i) : Ub room (us.set i v) (n + 1) := by
  refine ⟨by rw [List.length_set]; have := h.len; omega, ?_, fun j => ?_⟩
  · have h2 := cntU_set hi v
    rw [if_pos hu] at h2
    have h3 := h.cnt
    split at h2 <;> omega
  · rw [usN_set hi]
    split
    · exact ⟨h0, h1⟩
    · have := h.u j; omega
theorem Ub.pos (h : Ub room us n) {id : Int} (hz : useAt us id ≠ 0) : 0 < usN us id.toNat ∧ usN us id.toNat ≤ n ∧ id.toNat < us.length ∧ ((id.toNat : Nat) : Int) = id := by
  obtain ⟨h1, h2, h3⟩ := useAt_in hz
  have h4 := h.u id.toNat
  refine ⟨?_, h4.2, by omega, Int.toNat_of_nonneg h1⟩
  rw [h3] at hz
  omega
theorem Ub.ref (h : Ub room us n) (id : Int) : Ub room (refV us id) (n + 1) := by
  unfold refV
  split
  · exact h.more
  · rename_i hz
    obtain ⟨h1, h2, h3, _⟩ := h.pos hz
    rw [(useAt_in hz).2.2]
    exact h.set h3 (by omega) (by omega) h1
theorem Ub.unref (h : Ub room us n) (id : Int) : Ub room (unV us id) (n + 1) := by
  unfold unV
  split
  · exact h.more
  · rename_i hz
    obtain ⟨h1, h2, h3, _⟩ := h.pos hz
    rw [(useAt_in hz).2.2]
    exact h.set h3 (by omega) (by omega) h1
end
/-- A pool of the call's own, by how often each number is used. -/
def ZU (w : World) (pt : Nat) (room : Int) (us : List Int) (W : World) : Prop := ∃ T, usT T = us ∧ Z14 w pt room T W
section
variable {w W W' : World} {pt : Nat} {room : Int} {us : List Int} {n : Nat}
theorem ZU.up (h : ZU w pt room us W) (hb : Below W.heap.size W W') : ZU w pt room us W' := h.imp fun _ q => ⟨q.1, q.2.up hb⟩
theorem ZU.b (h : ZU w pt room us W) : Below w.heap.size w W := by obtain ⟨_, _, z⟩ := h; exact z.b
theorem atT_use {T : List (Value × Int)} {id : Int} : (atT T id).2 = useAt (usT T) id := by
  unfold useAt
  split
  · rename_i h
    rw [usT_len] at h
    obtain ⟨i, rfl⟩ : ∃ i : Nat, id = (i : Int) := ⟨id.toNat, (Int.toNat_of_nonneg h.1).symm⟩
    obtain ⟨x, hx⟩ : ∃ x, T[i]? = some x := ⟨_, List.getElem?_eq_getElem (by omega)⟩
    rw [atT_of hx, Int.toNat_natCast, usT_at hx]
  · rename_i h
    rw [atT_out (by rw [usT_len] at h; exact h)]
theorem ZU.len (h : ZU w pt room us W) : Calls Tryd.prog 14 #[.pointer (some ⟨pt, 0, none⟩)] W fun e w' => e = .returned (.int .i64 (cntU us : Int)) ∧ W = w' := by
  obtain ⟨T, rfl, z⟩ := h
  exact z.len
theorem ZU.addInt (h : ZU w pt room us W) (hu : Ub room us n) (hn : n ≤ 5000) (x : Int) : Calls Tryd.prog 20 #[.pointer (some ⟨pt, 0, none⟩), .int .i64 x] W fun e w' => e = .returned (.tuple #[.int .i64 (addQ room us).1, .int .i64 (addQ room us).2]) ∧ ZU w pt room (addV room us) w' ∧ Kz w W w' := by
  obtain ⟨T, rfl, z⟩ := h
  unfold addQ addV
  have hl := hu.len
  rw [usT_len] at hl
  split
  · rename_i hf
    exact (z.addInt x hf (by omega)).mono fun _ _ ⟨h1, h2, h3⟩ => ⟨h1, ⟨_, usT_add _ _, h2⟩, h3⟩
  · rename_i hf
    exact (z.addIntFull x (by omega)).mono fun _ _ ⟨h1, h2⟩ => ⟨h1, ⟨T, rfl, z.up h2⟩, Kz.below h2⟩
theorem ZU.addText (h : ZU w pt room us W) (hu : Ub room us n) (hn : n ≤ 5000) (s : ByteArray) (hs : s.size ≤ 1000) : Calls Tryd.prog 17 #[.pointer (some ⟨pt, 0, none⟩), .string s] W fun e w' => e = .returned (.tuple #[.int .i64 (addQ room us).1, .int .i64 (addQ room us).2]) ∧ ZU w pt room (addV room us) w' ∧ Kz w W w' := by
  obtain ⟨T, rfl, z⟩ := h
  unfold addQ addV
  have hl := hu.len
  rw [usT_len] at hl
  split
  · rename_i hf
    exact (z.addText s (by omega) hf (by omega)).mono fun _ _ ⟨h1, h2, h3⟩ => ⟨h1, ⟨_, usT_add _ _, h2⟩, h3⟩
  · rename_i hf
    exact (z.addTextFull s (by omega) (by omega)).mono fun _ _ ⟨h1, h2⟩ => ⟨h1, ⟨T, rfl, z.up h2⟩, Kz.below h2⟩
theorem ZU.addHop (h : ZU w pt room us W) (hu : Ub room us n) (hn : n ≤ 5000) (o : Int) (L : Value) (p b : Int) (R : Value) (pp : Bool) (l r : List Int) (hL : IsC intR 1 W L l) (hR : IsC intR 1 W R r) (h1 : l.length ≤ 1000) (h2 : r.length ≤ 1000) : Calls Tryd.prog 10 #[.pointer (some ⟨pt, 0, none⟩), .agg (hopR o L p b R pp).toArray] W fun e w' => e = .returned (.tuple #[.int .i64 (addQ room us).1, .int .i64 (addQ room us).2]) ∧ ZU w pt room (addV room us) w' ∧ Kz w W w' := by
  obtain ⟨T, rfl, z⟩ := h
  unfold addQ addV
  have hl := hu.len
  rw [usT_len] at hl
  split
  · rename_i hf
    exact (z.addHop o L p b R pp l r hL hR h1 h2 hf (by omega)).mono fun _ _ ⟨q1, _, _, _, _, q2, q3⟩ => ⟨q1, ⟨_, usT_add _ _, q2⟩, q3⟩
  · rename_i hf
    exact (z.addHopFull o L p b R pp l r hL hR h1 h2 (by omega)).mono fun _ _ ⟨q1, q2⟩ => ⟨q1, ⟨T, rfl, z.up q2⟩, Kz.below q2⟩
theorem usT_some {T : List (Value × Int)} {i : Nat} (h : i < (usT T).length) : ∃ x, T[i]? = some x ∧ x.2 = usN (usT T) i := by
  rw [usT_len] at h
  exact ⟨T[i], List.getElem?_eq_getElem h, (usT_at (List.getElem?_eq_getElem h)).symm⟩
theorem ZU.ref (h : ZU w pt room us W) (hu : Ub room us n) (hn : n ≤ 5000) (id : Int) : Calls Tryd.prog 11 #[.pointer (some ⟨pt, 0, none⟩), .int .i64 id] W fun e w' => e = .returned (.int .i64 (refQ us id)) ∧ ZU w pt room (refV us id) w' ∧ Kz w W w' := by
  obtain ⟨T, rfl, z⟩ := h
  unfold refQ refV
  split
  · rename_i hz
    exact (z.refNo id (by rw [atT_use]; exact hz)).mono fun _ _ ⟨h1, h2⟩ => ⟨h1, ⟨T, rfl, z.up h2⟩, Kz.below h2⟩
  · rename_i hz
    obtain ⟨p1, p2, p3, p4⟩ := hu.pos hz
    obtain ⟨x, hx, hxu⟩ := usT_some p3
    have e := (useAt_in hz).2.2
    have q := z.ref id.toNat x hx (by omega) (by omega)
    rw [p4] at q
    refine q.mono fun _ _ ⟨h1, h2, h3⟩ => ⟨h1, ⟨_, ?_, h2⟩, h3⟩
    rw [usT_set, e, ← hxu]
theorem ZU.unref (h : ZU w pt room us W) (hu : Ub room us n) (hn : n ≤ 5000) (id : Int) : Calls Tryd.prog 16 #[.pointer (some ⟨pt, 0, none⟩), .int .i64 id] W fun e w' => e = .returned (.tuple #[.bool (unQ us id).1, .int .i64 (unQ us id).2]) ∧ ZU w pt room (unV us id) w' ∧ Kz w W w' := by
  obtain ⟨T, rfl, z⟩ := h
  unfold unQ unV
  split
  · rename_i hz
    exact (z.unrefNo id (by rw [atT_use]; exact hz)).mono fun _ _ ⟨h1, h2⟩ => ⟨h1, ⟨T, rfl, z.up h2⟩, Kz.below h2⟩
  · rename_i hz
    obtain ⟨p1, p2, p3, p4⟩ := hu.pos hz
    obtain ⟨x, hx, hxu⟩ := usT_some p3
    have e := (useAt_in hz).2.2
    have hl := hu.len
    rw [usT_len] at hl
    by_cases h1 : x.2 = 1
    · have q := z.unrefLast id.toNat x hx h1 (by omega)
      rw [p4] at q
      refine q.mono fun _ _ ⟨q1, q2, q3⟩ => ⟨?_, ⟨_, ?_, q2⟩, q3⟩
      · rw [q1, e, ← hxu, h1]; rfl
      · rw [usT_set, e, ← hxu, h1]; rfl
    · have q := z.unrefMore id.toNat x hx (by omega) (by omega)
      rw [p4] at q
      refine q.mono fun _ _ ⟨q1, q2, q3⟩ => ⟨?_, ⟨_, ?_, q2⟩, q3⟩
      · rw [q1, e, ← hxu, decide_eq_false (by omega)]
      · rw [usT_set, e, ← hxu]
end
/-- The document's pool, by how often each number is used. -/
def DU (w : World) (us : List Int) (v : Value) (W : World) : Prop := ∃ D, usX D = us ∧ W.ownsRow w.heap.size 50 10 v D.length (D.flatMap xR) ∧ v.oneCell' = true
section
variable {w W W' : World} {room : Int} {us : List Int} {n : Nat} {v : Value}
theorem DU.none (w W : World) : DU w [] (.slice none 0 0) W := ⟨[], rfl, World.ownsRow_nil _ _ _ _, rfl⟩
theorem DU.up (h : DU w us v W) (hb : Below W.heap.size W W') : DU w us v W' := h.imp fun _ q => ⟨q.1, own_below q.2.1 hb, q.2.2⟩
theorem DU.kz {w0 : World} (h : DU w us v W) (hk : Kz w0 W W') : DU w us v W' := h.imp fun _ q => ⟨q.1, hk.own q.2.1 (by decide) (by decide) (by decide), q.2.2⟩
theorem DU.one (h : DU w us v W) : v.oneCell' = true := by obtain ⟨_, _, _, q⟩ := h; exact q
theorem usX_some {D : List Th14} {i : Nat} (h : i < (usX D).length) : ∃ x, D[i]? = some x ∧ x.u = usN (usX D) i := by
  rw [usX_len] at h
  exact ⟨D[i], List.getElem?_eq_getElem h, (usX_at (List.getElem?_eq_getElem h)).symm⟩
theorem getX_u {D : List Th14} {id : Int} : (getX D id).u = useAt (usX D) id := by
  by_cases h : 0 ≤ id ∧ id < D.length
  · obtain ⟨i, rfl⟩ : ∃ i : Nat, id = (i : Int) := ⟨id.toNat, (Int.toNat_of_nonneg h.1).symm⟩
    obtain ⟨x, hx⟩ : ∃ x, D[i]? = some x := ⟨_, List.getElem?_eq_getElem (by omega)⟩
    rw [useAt_nat, usX_at hx]
    by_cases hu : x.u = 0
    · rw [getX_no hx hu, hu]; rfl
    · rw [getX_at hx hu]
  · rw [getX_out h]
    unfold useAt
    rw [if_neg (by rw [usX_len]; exact h)]
    rfl
theorem DU.len (h : DU w us v W) (hu : Ub room us n) (hn : n ≤ 5000) (is : Bool) (rm : Int) : Calls Tryd.prog 15 #[p14V is rm v] W fun e w' => e = .returned (.int .i64 (cntU us : Int)) ∧ Below W.heap.size W w' := by
  obtain ⟨D, rfl, q, _⟩ := h
  have hl := hu.len
  rw [usX_len] at hl
  exact rlen14 is rm v D W (IsC.of_owned (x14_len D) q) (by omega)
theorem DU.get (h : DU w us v W) (is : Bool) (rm id : Int) : Calls Tryd.prog 18 #[p14V is rm v, .int .i64 id] W fun e w' => (∃ x, e = .returned (.agg (xR x).toArray) ∧ x.u = useAt us id) ∧ Below W.heap.size W w' := by
  obtain ⟨D, rfl, q, _⟩ := h
  exact (rget14 is rm v D id W (IsC.of_owned (x14_len D) q)).mono fun _ _ ⟨h1, h2⟩ => ⟨⟨_, h1, getX_u⟩, h2⟩
theorem DU.add (h : DU w us v W) (hu : Ub room us n) (hn : n ≤ 5000) (hw : w.heap.size ≤ W.heap.size) (x : Th14) : Calls Tryd.prog 23 #[p14V true room v, .agg (xR x).toArray] W fun e w' => ∃ v', e = .returned (.tuple #[p14V true room v', .int .i64 (addQ room us).1, .int .i64 (addQ room us).2]) ∧ DU w (addV room us) v' w' ∧ Below W.heap.size W w' := by
  obtain ⟨D, rfl, q, q1⟩ := h
  have hl := hu.len
  rw [usX_len] at hl
  have hc := hu.cnt
  unfold addQ addV
  split
  · rename_i hf
    exact (radd_any room v D x W (IsC.of_owned (x14_len D) q) (by omega) (by omega)).mono fun _ _ ⟨v', h1, h2, h3, h4⟩ => ⟨v', h1, ⟨_, usX_put D _ rfl, own_mono h2 hw, h3⟩, h4⟩
  · rename_i hf
    exact (radd_full room v D x W (IsC.of_owned (x14_len D) q) (by omega) (by omega)).mono fun _ _ ⟨h1, h2⟩ => ⟨v, h1, ⟨D, rfl, own_below q h2, q1⟩, h2⟩
theorem DU.ref (h : DU w us v W) (hu : Ub room us n) (hn : n ≤ 5000) (hw : w.heap.size ≤ W.heap.size) (id : Int) : Calls Tryd.prog 24 #[p14V true room v, .int .i64 id] W fun e w' => ∃ v', e = .returned (.tuple #[p14V true room v', .int .i64 (refQ us id)]) ∧ DU w (refV us id) v' w' ∧ Below W.heap.size W w' := by
  obtain ⟨D, rfl, q, q1⟩ := h
  have hl := hu.len
  rw [usX_len] at hl
  unfold refQ refV
  split
  · rename_i hz
    exact (rref_no room v D id W (IsC.of_owned (x14_len D) q) (by rw [getX_u]; exact hz)).mono fun _ _ ⟨h1, h2⟩ => ⟨v, h1, ⟨D, rfl, own_below q h2, q1⟩, h2⟩
  · rename_i hz
    obtain ⟨p1, p2, p3, p4⟩ := hu.pos hz
    obtain ⟨x, hx, hxu⟩ := usX_some p3
    have e := (useAt_in hz).2.2
    have r := rref_any room v D id.toNat x W (IsC.of_owned (x14_len D) q) (by omega) hx (by omega) (by omega)
    rw [p4] at r
    refine r.mono fun _ _ ⟨v', h1, h2, h3, h4⟩ => ⟨v', h1, ⟨D.set id.toNat _, ?_, by rw [List.length_set]; exact own_mono h2 hw, h3⟩, h4⟩
    rw [usX_set, e, ← hxu]
theorem DU.unref (h : DU w us v W) (hu : Ub room us n) (hn : n ≤ 5000) (hw : w.heap.size ≤ W.heap.size) (id : Int) : Calls Tryd.prog 25 #[p14V true room v, .int .i64 id] W fun e w' => ∃ v', e = .returned (.tuple #[p14V true room v', .bool (unQ us id).1, .int .i64 (unQ us id).2]) ∧ DU w (unV us id) v' w' ∧ Below W.heap.size W w' := by
  obtain ⟨D, rfl, q, q1⟩ := h
  have hl := hu.len
  rw [usX_len] at hl
  unfold unQ unV
  split
  · rename_i hz
    exact (runref_no room v D id W (IsC.of_owned (x14_len D) q) (by rw [getX_u]; exact hz)).mono fun _ _ ⟨h1, h2⟩ => ⟨v, h1, ⟨D, rfl, own_below q h2, q1⟩, h2⟩
  · rename_i hz
    obtain ⟨p1, p2, p3, p4⟩ := hu.pos hz
    obtain ⟨x, hx, hxu⟩ := usX_some p3
    have e := (useAt_in hz).2.2
    have r := runref_any room v D id.toNat x W (IsC.of_owned (x14_len D) q) (by omega) hx (by omega) (by omega)
    rw [p4] at r
    refine r.mono fun _ _ ⟨v', h1, h2, h3, h4⟩ => ⟨v', ?_, ⟨D.set id.toNat _, ?_, by rw [List.length_set]; exact own_mono h2 hw, h3⟩, h4⟩
    · rw [h1, e, ← hxu]
    · rw [usX_set, e, ← hxu]
end
end Go.Proofs.YtoliijajhikhgaaDoor

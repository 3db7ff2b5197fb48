/- A table of package lpm, or none, beside the document's: each call answers as the document's does. The law's own 'same': a table of package lpm and the document's hold the same. -/
import Derived.Test.YtgimcapcnidjjaaR9f
namespace Go.Proofs.Ytgimcapcnidjjaa
open Go Go.RowKit

/-- A row in order holds none that may not be of the table. -/
theorem getT_mem {six : Bool} : ∀ (L : List (Pfx × Int)) (p : Pfx) (v : Int), InOrder cmpP (okP six) L → p.addr.length = 16 → getT cmpP p L = some v → (p, v) ∈ L
  | [], _, _, _, _, h => by cases h
  | x :: L, p, v, ho, hp, h => by
    unfold getT at h
    split at h
    · exact List.mem_cons_of_mem _ (getT_mem L p v ho.tail hp h)
    · split at h
      · rename_i h0
        have hx := ho.head.1
        have e := cmpP_ord.zero x.1 p hx.2.1 hp h0
        cases h
        rw [← e]
        exact List.mem_cons_self
      · cases h
theorem getV_order {six : Bool} {L : List (Pfx × Int)} (ho : InOrder cmpP (okP six) L) (p : Pfx) (hp : p.addr.length = 16) : getV six L p = getT cmpP p L := by
  unfold getV
  split
  · rfl
  · rename_i h0
    cases hg : getT cmpP p L with
    | none => rfl
    | some v =>
      have := ho.2 _ (getT_mem L p v ho hp hg)
      exact absurd (by rw [this.2.2, this.1]; simp) h0
/-- A table, or none. -/
def TabQ (W : World) (X : Nat → Prop) (pt : Value) (is six : Bool) (room : Int) (L : List (Pfx × Int)) (N : Nat) : Prop :=
  (is = true ∧ ∃ g, pt = .pointer (some ⟨g, 0, none⟩) ∧ TabZ W X g six room L N ∧ (L.length : Int) ≤ room) ∨ (is = false ∧ pt = .pointer none ∧ L = [] ∧ ∀ k, ¬ X k)
section
variable {W W' : World} {X : Nat → Prop} {pt : Value} {is six : Bool} {room : Int} {L : List (Pfx × Int)} {N : Nat}
theorem TabQ.up (h : TabQ W X pt is six room L N) (hb : Below W.heap.size W W') : TabQ W' X pt is six room L N := by
  rcases h with ⟨h1, g, h2, h3, h4⟩ | h
  · exact .inl ⟨h1, g, h2, h3.up hb, h4⟩
  · exact .inr h
theorem TabQ.other {Y Y' : Nat → Prop} (h : TabQ W X pt is six room L N) (hu : Upd W Y W' Y') (ha : ∀ k, X k → ¬ Y k) : TabQ W' X pt is six room L N := by
  rcases h with ⟨h1, g, h2, h3, h4⟩ | h
  · exact .inl ⟨h1, g, h2, h3.other hu ha, h4⟩
  · exact .inr h
theorem TabQ.blocks (h : TabQ W X pt is six room L N) : ∀ k, X k → k < W.heap.size := by
  rcases h with ⟨h1, g, h2, h3, h4⟩ | h
  · exact h3.blocks
  · exact fun k hk => absurd hk (h.2.2.2 k)
theorem TabQ.order (h : TabQ W X pt is six room L N) : InOrder cmpP (okP six) L := by
  rcases h with ⟨h1, g, h2, h3, h4⟩ | ⟨_, _, rfl, _⟩
  · exact h3.order
  · exact InOrder.nil
theorem getQ (p : Pfx) (h : TabQ W X pt is six room L N) (hp : p.addr.length = 16) :
    Calls Try.prog 38 #[pt, p.val] W fun e w' => e = .returned (.tuple #[.int .i64 ((getT cmpP p L).getD 0), .bool (getT cmpP p L).isSome]) ∧ Below W.heap.size W w' := by
  rcases h with ⟨h1, g, rfl, h3, h4⟩ | ⟨_, rfl, rfl, _⟩
  · have := getZ p W h3 hp
    rw [getV_order h3.order p hp] at this
    exact this
  · exact get_nil p W hp
theorem lookQ (a : List UInt8) (h : TabQ W X pt is six room L N) (ha : a.length = 16) :
    Calls Try.prog 36 #[pt, arrV a] W fun e w' => e = .returned (.tuple #[itV ((lookT a L).getD it0).1 ((lookT a L).getD it0).2, .bool (lookT a L).isSome]) ∧ Below W.heap.size W w' := by
  rcases h with ⟨h1, g, rfl, h3, h4⟩ | ⟨_, rfl, rfl, _⟩
  · exact lookZ a W h3 ha
  · exact look_nil a W
theorem allQ (h : TabQ W X pt is six room L N) (hN : N ≤ 1000000) :
    Calls Try.prog 44 #[pt] W fun e w' => ∃ va vc, e = .returned (.slice va L.length vc) ∧ IsC itF 19 w' (.slice va L.length vc) L ∧ Below W.heap.size W w' := by
  have ho := h.order
  rcases h with ⟨h1, g, rfl, h3, h4⟩ | ⟨_, rfl, rfl, _⟩
  · refine (allZ W h3 hN).mono ?_
    rintro e w' ⟨v, rfl, k1, k2⟩
    obtain ⟨va, vc, rfl⟩ := own_slice9 k1
    exact ⟨va, vc, rfl, IsC.of_owned (fun y hy => it_len (ho.2 y hy).2.1 _) k1, k2⟩
  · refine (all_nil W).mono ?_
    rintro e w' ⟨rfl, rfl⟩
    exact ⟨none, 0, rfl, IsC.nil _, Below.refl _ _⟩
theorem rput_eq (h : (L.length : Int) ≤ room) (p : Pfx) : rputE true six room L p = putE six room L p := by
  unfold rputE putE
  rw [Bool.true_and]
  by_cases h0 : (chkP p && (p.six == six)) = true
  · rw [if_pos h0, if_pos h0]
    have h1 : (isT cmpP p L = false ∧ (L.length : Int) = room) ↔ (getT cmpP p L = none ∧ room ≤ (L.length : Int)) := by
      rw [isT_get]
      constructor
      · rintro ⟨a, b⟩
        exact ⟨by cases hg : getT cmpP p L <;> simp_all, by omega⟩
      · rintro ⟨a, b⟩
        exact ⟨by rw [a]; rfl, by omega⟩
    simp only [h1]
  · rw [if_neg h0, if_neg h0]
theorem rdel_eq (p : Pfx) : rdelE true six L p = delE six L p := by
  unfold rdelE delE
  rw [Bool.true_and]
  have h1 : (isT cmpP p L = false) ↔ (getT cmpP p L = none) := by
    rw [isT_get]
    cases getT cmpP p L <;> simp
  simp only [h1]
theorem putQ (p : Pfx) (x : Int) (h : TabQ W X pt is six room L N) (hp : p.addr.length = 16) (hN : N ≤ 900000) :
    Calls Try.prog 31 #[pt, p.val, .int .i64 x] W fun e W' => e = .returned (.int .i64 (rputE is six room L p)) ∧ ∃ X', TabQ W' X' pt is six room (rputL is six room L p x) (N + 150) ∧ Upd W X W' X' := by
  rcases h with ⟨rfl, g, rfl, h3, h4⟩ | ⟨rfl, rfl, rfl, hx⟩
  · refine (putZ p x W h3 hp hN).mono ?_
    rintro e W' ⟨rfl, X', t1, u1⟩
    unfold rputL
    rw [rput_eq h4 p]
    refine ⟨rfl, X', .inl ⟨rfl, g, rfl, t1, ?_⟩, u1⟩
    show ((putLst six room L p x).length : Int) ≤ room
    unfold putLst
    split
    · rename_i h0
      unfold putE at h0
      rw [put_length, isT_get]
      split at h0
      · split at h0
        · omega
        · rename_i h1
          cases hg : getT cmpP p L with
          | none =>
            have : ¬ room ≤ (L.length : Int) := fun h => h1 ⟨hg, h⟩
            simp
            omega
          | some v => simp; omega
      · omega
    · exact h4
  · refine (put_no (.pointer none) p x W hp (fun V _ => takes_nil p V)).mono ?_
    rintro e W' ⟨rfl, hb⟩
    exact ⟨rfl, X, .inr ⟨rfl, rfl, rfl, hx⟩, Upd.of_below X hb⟩
theorem delQ (p : Pfx) (h : TabQ W X pt is six room L N) (hp : p.addr.length = 16) (hN : N ≤ 900000) :
    Calls Try.prog 34 #[pt, p.val] W fun e W' => e = .returned (.int .i64 (rdelE is six L p)) ∧ ∃ X', TabQ W' X' pt is six room (rdelL is six L p) (N + 150) ∧ Upd W X W' X' := by
  rcases h with ⟨rfl, g, rfl, h3, h4⟩ | ⟨rfl, rfl, rfl, hx⟩
  · refine (delZ p W h3 hp hN).mono ?_
    rintro e W' ⟨rfl, X', t1, u1⟩
    unfold rdelL
    rw [rdel_eq p]
    refine ⟨rfl, X', .inl ⟨rfl, g, rfl, t1, ?_⟩, u1⟩
    show ((delLst six L p).length : Int) ≤ room
    unfold delLst
    split
    · rename_i h0
      unfold delE at h0
      split at h0
      · split at h0
        · omega
        · rename_i h1
          have := del_len h1
          omega
      · omega
    · exact h4
  · refine (del_no (.pointer none) p W hp (fun V _ => takes_nil p V)).mono ?_
    rintro e W' ⟨rfl, hb⟩
    exact ⟨rfl, X, .inr ⟨rfl, rfl, rfl, hx⟩, Upd.of_below X hb⟩
end
theorem rputL_len (is six : Bool) (room : Int) (L : List (Pfx × Int)) (p : Pfx) (x : Int) : (rputL is six room L p x).length ≤ L.length + 1 := by
  unfold rputL
  split
  · rw [put_length]; split <;> omega
  · omega
theorem rdelL_len (is six : Bool) (L : List (Pfx × Int)) (p : Pfx) : (rdelL is six L p).length ≤ L.length := by
  unfold rdelL
  split
  · rw [delT_form]
    split
    · rw [List.length_append, List.length_take, List.length_drop]; omega
    · omega
  · omega
theorem doL_len (k : Int) (is six : Bool) (room : Int) (L : List (Pfx × Int)) (p : Pfx) (x : Int) : (doL k is six room L p x).length ≤ L.length + 1 := by
  have h1 := rputL_len is six room L p x
  have h2 := rdelL_len is six L p
  unfold doL
  split
  · exact h1
  · split <;> omega
/-! The two, and the boxes beside them. -/
theorem isC_upd {W W' : World} {X X' : Nat → Prop} {a : Option Addr} {n cap : Nat} {L : List (Pfx × Int)} (h : IsC itF 19 W (.slice a n cap) L) (hu : Upd W X W' X') (hx : 0 < L.length → ∀ x, a = some x → ¬ X x.block) : IsC itF 19 W' (.slice a n cap) L := by
  obtain ⟨h0, a', cap', e, h1, h2, h3⟩ := h
  simp only [Value.slice.injEq] at e
  obtain ⟨rfl, rfl, rfl⟩ := e
  refine ⟨h0, _, _, rfl, h1, h2, fun hp => ?_⟩
  obtain ⟨b, k, rfl, hlt, hc⟩ := h3 hp
  refine ⟨b, k, rfl, Nat.lt_of_lt_of_le hlt hu.size, fun j v hj => ?_⟩
  have := hu.block b hlt (hx hp _ rfl)
  have e2 : W'.cell? ⟨b, k + j, none⟩ = W.cell? ⟨b, k + j, none⟩ := by
    unfold World.cell?
    rw [this]
  exact e2.trans (hc j v hj)
theorem Upd.setRow (W : World) (g : Nat) (cs : Array Value) : Upd W (fun k => k = g) (W.setRow g cs) (fun k => k = g) :=
  have hb : Below g W (W.setRow g cs) := below_row (Below.refl g W) (Nat.le_refl _) cs
  ⟨hb.os, hb.tape, hb.output, hb.size, fun k _ hx => setRow_other W g k cs hx, fun _ h => .inl h⟩
/-- The table holds LT; the document's holds LR, in the box bT and the row (a, n, cap); the blocks O lie apart from the table. -/
structure DuoZ (w : World) (O : Nat → Prop) (pt : Value) (is six : Bool) (room : Int) (LT : List (Pfx × Int)) (N : Nat) (bT : Nat) (LR : List (Pfx × Int)) (a : Option Addr) (n cap : Nat) (W : World) : Prop where
  tab : ∃ X, TabQ W X pt is six room LT N ∧ (∀ k, X k → w.heap.size ≤ k) ∧ ¬ X bT ∧ (∀ k, O k → ¬ X k ∧ k < W.heap.size) ∧ (0 < LR.length → ∀ x, a = some x → ¬ X x.block ∧ x.block ≠ bT)
  ref : Bx W bT 31 (tR is six room (.slice a n cap))
  lst : IsC itF 19 W (.slice a n cap) LR
  base : w.heap.size ≤ bT
  below : Below w.heap.size w W
section
variable {w W W' : World} {O : Nat → Prop} {pt : Value} {is six : Bool} {room : Int} {LT LR : List (Pfx × Int)} {N bT : Nat} {a : Option Addr} {n cap : Nat}
theorem DuoZ.up (h : DuoZ w O pt is six room LT N bT LR a n cap W) (hb : Below W.heap.size W W') : DuoZ w O pt is six room LT N bT LR a n cap W' := by
  obtain ⟨X, h1, h2, h3, h4, h5⟩ := h.tab
  have := hb.size
  exact ⟨⟨X, h1.up hb, h2, h3, fun k hk => ⟨(h4 k hk).1, Nat.lt_of_lt_of_le (h4 k hk).2 this⟩, h5⟩, h.ref.up hb, h.lst.below hb, h.base, below_up h.below hb h.below.size⟩
/-- Other blocks beside the table: fresh ones. -/
theorem DuoZ.with (h : DuoZ w O pt is six room LT N bT LR a n cap W) (hb : Below W.heap.size W W') (O' : Nat → Prop) (hO : ∀ k, O' k → W.heap.size ≤ k ∧ k < W'.heap.size) : DuoZ w O' pt is six room LT N bT LR a n cap W' := by
  obtain ⟨X, h1, h2, h3, h4, h5⟩ := h.tab
  exact ⟨⟨X, h1.up hb, h2, h3, fun k hk => ⟨fun hx => by have := h1.blocks k hx; have := (hO k hk).1; omega, (hO k hk).2⟩, h5⟩, h.ref.up hb, h.lst.below hb, h.base, below_up h.below hb h.below.size⟩
theorem DuoZ.less (h : DuoZ w O pt is six room LT N bT LR a n cap W) (O' : Nat → Prop) (hO : ∀ k, O' k → O k) : DuoZ w O' pt is six room LT N bT LR a n cap W := by
  obtain ⟨X, h1, h2, h3, h4, h5⟩ := h.tab
  exact ⟨⟨X, h1, h2, h3, fun k hk => h4 k (hO k hk), h5⟩, h.ref, h.lst, h.base, h.below⟩
theorem TabQ.more {X : Nat → Prop} {L : List (Pfx × Int)} (h : TabQ W X pt is six room L N) {M : Nat} (hM : N ≤ M) : TabQ W X pt is six room L M := by
  rcases h with ⟨h1, g, h2, h3, h4⟩ | h
  · exact .inl ⟨h1, g, h2, h3.more hM, h4⟩
  · exact .inr h
theorem DuoZ.more (h : DuoZ w O pt is six room LT N bT LR a n cap W) {M : Nat} (hM : N ≤ M) : DuoZ w O pt is six room LT M bT LR a n cap W := by
  obtain ⟨X, h1, h2⟩ := h.tab
  exact ⟨⟨X, h1.more hM, h2⟩, h.ref, h.lst, h.base, h.below⟩
theorem DuoZ.step {X X' : Nat → Prop} {LT' : List (Pfx × Int)} {N' : Nat} (hR : Bx W bT 31 (tR is six room (.slice a n cap))) (hL : IsC itF 19 W (.slice a n cap) LR) (hB : w.heap.size ≤ bT) (hW : Below w.heap.size w W)
    (h2 : ∀ k, X k → w.heap.size ≤ k) (h3 : ¬ X bT) (h4 : ∀ k, O k → ¬ X k ∧ k < W.heap.size) (h5 : 0 < LR.length → ∀ x, a = some x → ¬ X x.block ∧ x.block ≠ bT) (t1 : TabQ W' X' pt is six room LT' N') (u1 : Upd W X W' X') :
    DuoZ w O pt is six room LT' N' bT LR a n cap W' := by
  have hlow := hR.lt
  have hws := hW.size
  refine ⟨⟨X', t1, fun k hx => ?_, fun hx => ?_, fun k hk => ⟨fun hx => ?_, ?_⟩, fun h0 x e => ⟨fun hx => ?_, (h5 h0 x e).2⟩⟩, hR.upd u1 h3, isC_upd hL u1 (fun h0 x e => (h5 h0 x e).1), hB, hW.trans (u1.below w.heap.size hws h2)⟩
  · rcases u1.sub _ hx with h | h
    · exact h2 k h
    · omega
  · rcases u1.sub _ hx with h | h
    · exact h3 h
    · omega
  · rcases u1.sub _ hx with h | h
    · exact (h4 k hk).1 h
    · have := (h4 k hk).2; omega
  · have := (h4 k hk).2
    have := u1.size
    omega
  · rcases u1.sub _ hx with h | h
    · exact (h5 h0 x e).1 h
    · obtain ⟨_, _, _, h6⟩ := hL.shape
      obtain ⟨b, k, e2, hb, _⟩ := h6 h0
      rw [e2] at e
      cases e
      simp only at h
      omega
theorem DuoZ.put (h : DuoZ w O pt is six room LT N bT LR a n cap W) (p : Pfx) (x : Int) (hp : p.addr.length = 16) (hN : N ≤ 900000) :
    Calls Try.prog 31 #[pt, p.val, .int .i64 x] W fun e W' => e = .returned (.int .i64 (rputE is six room LT p)) ∧ DuoZ w O pt is six room (rputL is six room LT p x) (N + 150) bT LR a n cap W' ∧ ∀ k t l, O k → Bx W k t l → Bx W' k t l := by
  obtain ⟨X, h1, h2, h3, h4, h5⟩ := h.tab
  refine (putQ p x h1 hp hN).mono ?_
  rintro e W' ⟨rfl, X', t1, u1⟩
  exact ⟨rfl, DuoZ.step h.ref h.lst h.base h.below h2 h3 h4 h5 t1 u1, fun k t l hk hb => hb.upd u1 (h4 k hk).1⟩
theorem DuoZ.del (h : DuoZ w O pt is six room LT N bT LR a n cap W) (p : Pfx) (hp : p.addr.length = 16) (hN : N ≤ 900000) :
    Calls Try.prog 34 #[pt, p.val] W fun e W' => e = .returned (.int .i64 (rdelE is six LT p)) ∧ DuoZ w O pt is six room (rdelL is six LT p) (N + 150) bT LR a n cap W' ∧ ∀ k t l, O k → Bx W k t l → Bx W' k t l := by
  obtain ⟨X, h1, h2, h3, h4, h5⟩ := h.tab
  refine (delQ p h1 hp hN).mono ?_
  rintro e W' ⟨rfl, X', t1, u1⟩
  exact ⟨rfl, DuoZ.step h.ref h.lst h.base h.below h2 h3 h4 h5 t1 u1, fun k t l hk hb => hb.upd u1 (h4 k hk).1⟩
/-- What the document's answered is kept in the table's box. -/
theorem DuoZ.settle {W0 W3 : World} {a1 : Option Addr} {n1 cap1 : Nat} {L1 : List (Pfx × Int)} (h : DuoZ w O pt is six room LT N bT LR a n cap W0) (hb : Below W0.heap.size W0 W3) (hl : IsC itF 19 W3 (.slice a1 n1 cap1) L1)
    (hd : (a1 = a ∧ L1 = LR) ∨ ∀ x, a1 = some x → W0.heap.size ≤ x.block) :
    DuoZ w O pt is six room LT N bT L1 a1 n1 cap1 (W3.setRow bT (tR is six room (.slice a1 n1 cap1)).toArray) ∧ ∀ k t l, O k → k ≠ bT → Bx W0 k t l → Bx (W3.setRow bT (tR is six room (.slice a1 n1 cap1)).toArray) k t l := by
  have h' := h.up hb
  obtain ⟨X, h1, h2, h3, h4, h5⟩ := h.tab
  have hbT := h.ref.lt
  have hap : 0 < L1.length → ∀ x, a1 = some x → ¬ X x.block ∧ x.block ≠ bT := fun h0 x e => by
    rcases hd with ⟨rfl, rfl⟩ | hd
    · exact h5 h0 x e
    · have := hd x e
      exact ⟨fun hx => by have := h1.blocks _ hx; omega, by omega⟩
  have u2 := Upd.setRow W3 bT (tR is six room (.slice a1 n1 cap1)).toArray
  refine ⟨⟨⟨X, (h1.up hb).other u2 (fun k hx e => h3 (e ▸ hx)), h2, h3, fun k hk => ⟨(h4 k hk).1, ?_⟩, hap⟩, h'.ref.row _, isC_row hl bT _ (fun h0 x e => (hap h0 x e).2), h.base, below_row h'.below h.base _⟩, fun k t l hk hkT hB => (hB.up hb).rowOther hkT _⟩
  have := (h4 k hk).2
  have := hb.size
  have := u2.size
  omega
end
end Go.Proofs.Ytgimcapcnidjjaa
namespace Go.Proofs.Ytgimcapcnidjjaa
open Go Go.RowKit

structure SameZ (w : World) (l : List Value) (L : List (Pfx × Int)) (va : Value) (v : Value) (W : World) : Prop where
  box : Bx W w.heap.size 31 l
  a : IsC itF 19 W va L
  b : IsC itF 19 W v L
  below : Below w.heap.size w W
theorem SameZ.up {w : World} {l : List Value} {L : List (Pfx × Int)} {va v : Value} {W W' : World} (h : SameZ w l L va v W) (hb : Below W.heap.size W W') : SameZ w l L va v W' := ⟨h.box.up hb, h.a.below hb, h.b.below hb, below_up h.below hb h.below.size⟩
def HeldU (b0 : Nat) (v : Value) (W : World) : Prop := W.cell? ⟨b0, 3, none⟩ = some v
def HeldV (b0 : Nat) (v : Value) (b k b2 k2 : Nat) (m : List Value) (x : Int) (W : World) : Prop := W.cell? ⟨b0, 3, none⟩ = some v ∧ W.rangeAt b k m ∧ W.rangeAt b2 k2 m ∧ W.cell? ⟨b, k + 18, none⟩ = some (.int .i64 x) ∧ W.cell? ⟨b2, k2 + 18, none⟩ = some (.int .i64 x)
end Go.Proofs.Ytgimcapcnidjjaa

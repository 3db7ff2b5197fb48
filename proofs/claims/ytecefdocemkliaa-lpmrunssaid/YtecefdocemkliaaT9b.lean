/- The small functions of package lpm: side, take, give. -/
import Derived.Test.YtecefdocemkliaaT9a
namespace Go.Proofs.Ytecefdocemkliaa
open Go Go.RowKit

/-- The side of a prefix's address at a place. -/
def sideB (a : List UInt8) (n : Int) : Bool := decide (0 ≤ n ∧ n < 128) && bitL a n.toNat
theorem bitI_side (a : List UInt8) (n : Int) : bitI a n = if sideB a n then 1 else 0 := by
  unfold bitI sideB
  by_cases h : 0 ≤ n ∧ n < 128
  · rw [decide_eq_true h, Bool.true_and]
    by_cases hb : bitL a n.toNat = true
    · rw [if_pos ⟨h.1, h.2, hb⟩, if_pos hb]
    · rw [if_neg (fun h => hb h.2.2), if_neg hb]
  · rw [decide_eq_false h, Bool.false_and, if_neg (fun h2 => h ⟨h2.1, h2.2.1⟩)]
    rfl
/-- Two boxes. -/
def TwoB (w : World) (t u : TypeId) (l m : List Value) (W : World) : Prop := Bx W w.heap.size t l ∧ Bx W (w.heap.size + 1) u m ∧ Below w.heap.size w W
theorem TwoB.up {w : World} {t u : TypeId} {l m : List Value} {W W' : World} (h : TwoB w t u l m W) (hb : Below W.heap.size W W') : TwoB w t u l m W' := ⟨h.1.up hb, h.2.1.up hb, below_up h.2.2 hb h.2.2.size⟩
theorem twoB_new (w : World) (t u : TypeId) (l m : List Value) : TwoB w t u l m ((w.alloc (.cells l.toArray t)).alloc (.cells m.toArray u)) := by
  refine ⟨(Bx.new w t l).al _, ?_, ((Below.refl _ _).alloc (Nat.le_refl _) _).alloc (by simp) _⟩
  have := Bx.new (w.alloc (.cells l.toArray t)) u m
  rw [World.size_alloc] at this
  exact this
set_option maxRecDepth 100000 in
set_option maxHeartbeats 4000000 in
theorem side_any (d : Nd) (q : Pfx) (w : World) (f : d.p.addr.length = 16) (hq : q.addr.length = 16) :
    Calls Try.prog 36 #[d.val, q.val] w fun e w' => e = .returned (.int .i64 (if sideB q.addr d.p.len then 1 else 0)) ∧ Below w.heap.size w w' := by
  have HB := Lib.hid (fun n W => bit_any q.addr n W hq)
  have Z := Lib.hid (twoB_new w 79 32 d.row q.row)
  have c1 : ((w.alloc (.cells d.row.toArray 79)).alloc (.cells q.row.toArray 32)).cell? ⟨w.heap.size, 17, none⟩ = some (.int .i64 d.p.len) := by rw [Z.out.1.cell]; exact nd_plen f
  have HR := Lib.hid (show PfxT ((w.alloc (.cells d.row.toArray 79)).alloc (.cells q.row.toArray 32)) (w.heap.size + 1) q from Z.out.2.1)
  have HQ := Lib.hid hq
  rw [← bitI_side]
  rw [show d.val = .agg d.row.toArray from rfl, show q.val = .agg q.row.toArray from rfl]
  generalize d.p.len = n at *
  clear f hq
  go_enter Try.func36, Try.ntmps36
  go_wp2_with (first | (refine wpList_load_arrR rfl (.tmp 5) rfl (w.heap.size + 1) 1 q.addr HQ.out rfl HR.out.range ?_) | (go_at_call 47; refine (HB.out _ _).mono ?_; rintro e w1 ⟨rfl, b1⟩))
  go_ret
  exact ⟨rfl, (Z.out.up b1).2.2⟩
end Go.Proofs.Ytecefdocemkliaa

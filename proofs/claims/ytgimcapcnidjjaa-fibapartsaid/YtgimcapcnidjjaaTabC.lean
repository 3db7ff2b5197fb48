/- Those that cover a prefix, told one by one (above of package lpm). takes, above, Get of package lpm. -/
import Derived.RangeFuncNested
import Derived.RangeFuncBound
import Derived.RangeFuncCalls
import Derived.RangeFuncLeaves
import Derived.Shelf.Abstract
import Derived.Shelf.RegionOpen
import Derived.WalkKit
import Derived.OwnWalkIn
import Derived.TacticsInMore
import Derived.LoopNIn
import Derived.LoopIn
import Derived.Test.YtgimcapcnidjjaaTabA
namespace Go.Proofs.Ytgimcapcnidjjaa
open Go Go.RowKit Go.Shelf
attribute [local go_sem] Oper.semAt_some

/-! Laws inside a fence: an operation that yields, one that stores. -/
section
variable {F : Fence} {n : Nat} {ops : Array Oper} {rest : List Oper} {o : Oper} {a : Act} {w w' : World} {Q : Exit → Act → World → Prop}
theorem inV (hw : Region.wanted o (yielded ops a.tmps) = true) (hnd : ∀ c, o.op ≠ .defer c) (hab : o.about Try.prog w a.eval = none) (v : Value) (hrun : (execOp a.eval o).run Try.prog w = .ok (.value v) w')
    (h : wpListIn F n Try.prog ops Q rest (a.put o.dst v) w') : wpListIn F n Try.prog ops Q (o :: rest) a w :=
  wpListIn_step fun K hK => by
    rw [if_pos hw]
    unfold Oper.wpIn
    refine ⟨fun f hf => (by rw [hab] at hf; cases hf), ?_⟩
    rw [Oper.semAt_plain F _ _ hnd, hrun]
    exact hK _ _ h
theorem inS (hw : Region.wanted o (yielded ops a.tmps) = true) (hnd : ∀ c, o.op ≠ .defer c) (hab : o.about Try.prog w a.eval = none) (hrun : (execOp a.eval o).run Try.prog w = .ok .skip w')
    (h : wpListIn F n Try.prog ops Q rest (a.put o.dst undef) w') : wpListIn F n Try.prog ops Q (o :: rest) a w :=
  wpListIn_step fun K hK => by
    rw [if_pos hw]
    unfold Oper.wpIn
    refine ⟨fun f hf => (by rw [hab] at hf; cases hf), ?_⟩
    rw [Oper.semAt_plain F _ _ hnd, hrun]
    exact hK _ _ h
end
theorem exec_store_fresh {ρ : Operand → Value} {o : Oper} {w : World} (ty : TypeId) (x y : Operand) (ho : o.op = .store ty x y) (l : List Value) (old : Array Value) (b : Nat) (hx : ρ x = .pointer (some ⟨b, 0, none⟩)) (hbw : w.heap.size = b) (hy : ρ y = .agg l.toArray)
    (hi : (Try.prog.info? ty).map (·.size) = some l.length) (hold : old.size = l.length) (h1 : ∀ v ∈ l, v.oneCell' = true) :
    (execOp ρ o).run Try.prog (w.alloc (.cells old ty)) = .ok .skip (w.alloc (.cells l.toArray ty)) := by
  subst hbw
  unfold execOp
  have := run_storeVar_row (P := Try.prog) (w.alloc (.cells old ty)) w.heap.size ty ty old l.toArray (heap_alloc_new w _) (by simpa using hi) (by simpa using hold) (all_oneCell_toArray h1)
  simp only [ho, hx, hy, Instr.storeAt, Instr.sureAddr, Sem.run_bind, Sem.run_pure, Result.andThen_ok, this]
  rw [World.setRow_alloc_new]
/-- An item, its address sixteen bytes. -/
abbrev It := { x : Pfx × Int // x.1.addr.length = 16 }
def itemsT (l : List It) : List (Pfx × Int) := l.map (·.1)
def ownN (d : Nd) : List (Pfx × Int) := if d.held then [(d.p, d.v)] else []
def aboveN : Nat → List Nd → Nat → Pfx → Option (List (Pfx × Int))
  | 0, _, _, _ => none
  | f + 1, nds, n, q =>
    if n = 0 then some []
    else match nds[n]? with
      | none => none
      | some d =>
        if covP d.p q = true then
          match aboveN f nds (d.kid (sideB q.addr d.p.len)) q with
          | none => none
          | some l => some (ownN d ++ l)
        else some []
def cntN : Nat → List Nd → Nat → Pfx → Nat
  | 0, _, _, _ => 0
  | f + 1, nds, n, q =>
    if n = 0 then 0
    else match nds[n]? with
      | none => 0
      | some d => if covP d.p q = true then 1 + cntN f nds (d.kid (sideB q.addr d.p.len)) q else 0
theorem cnt_eq (nds : List Nd) (q : Pfx) : ∀ (f F n : Nat) (l : List (Pfx × Int)), aboveN f nds n q = some l → f ≤ F → cntN F nds n q = cntN f nds n q
  | 0, _, _, _, h, _ => by cases h
  | f + 1, 0, _, _, _, hF => by omega
  | f + 1, F + 1, n, l, h, hF => by
    unfold aboveN at h
    unfold cntN
    split
    · rfl
    · rename_i hn
      rw [if_neg hn] at h
      split
      · rfl
      · rename_i d hd
        rw [hd] at h
        simp only at h
        split
        · rename_i hc
          rw [if_pos hc] at h
          split at h
          · cases h
          · rename_i l1 h1
            rw [cnt_eq nds q f F _ l1 h1 (by omega)]
        · rfl
/-- What a round keeps: all cells but those of O. -/
def KpO (O : Nat → Prop) (W W' : World) : Prop := W.heap.size ≤ W'.heap.size ∧ ∀ k c t z, ¬ O k → W.heap[k]? = some (.cells c t z) → W'.heap[k]? = some (.cells c t z)
theorem KpO.refl (O : Nat → Prop) (W : World) : KpO O W W := ⟨Nat.le_refl _, fun _ _ _ _ _ h => h⟩
theorem KpO.trans {O : Nat → Prop} {A B C : World} (h : KpO O A B) (k : KpO O B C) : KpO O A C := ⟨Nat.le_trans h.1 k.1, fun i c t z ho hi => k.2 i c t z ho (h.2 i c t z ho hi)⟩
theorem KpO.put (O : Nat → Prop) (W : World) (l : Nat) (o o' : Obj) (h : W.heap[l]? = some o) (hc : o.isCells = false) : KpO O W (W.putObj l o') := by
  refine ⟨by simp, fun k c t z _ hk => ?_⟩
  have hne : k ≠ l := fun e => by rw [e, h] at hk; cases hk; cases hc
  exact (World.putObj_heap_other hne).trans hk
theorem KpO.below {O : Nat → Prop} {A B : World} (h : Below A.heap.size A B) : KpO O A B := ⟨h.size, fun k _ _ _ _ hk => (h.block k (Array.getElem?_eq_some_iff.1 hk).1).trans hk⟩
theorem KpO.set {O : Nat → Prop} (W : World) (b i : Nat) (v : Value) (h : O b) : KpO O W (W.setCell ⟨b, i, none⟩ v) := ⟨by simp, fun k _ _ _ ho hk => (Below.heap_setCell W _ v k (fun e => ho (by rw [show k = b from e]; exact h))).trans hk⟩
theorem Bx.kp {O : Nat → Prop} {W W' : World} {b : Nat} {t : TypeId} {l : List Value} (h : Bx W b t l) (hk : KpO O W W') (ho : ¬ O b) : Bx W' b t l := hk.2 b _ _ _ ho h
theorem own_kp {O : Nat → Prop} {w w' : World} {base : Nat} {e : TypeId} {size : Nat} {v : Value} {n : Nat} {xs : List Value} (h : w.ownsRow base e size v n xs) (hk : KpO O w w') (ho : ∀ k, v.ownBlock = some k → ¬ O k) : w'.ownsRow base e size v n xs := by
  refine ⟨h.1, ?_⟩
  rcases h.2 with h0 | ⟨g, cap, cur, rfl, h2, hg, h3⟩
  · exact .inl h0
  · exact .inr ⟨g, cap, cur, rfl, h2, hk.2 g _ _ _ (ho g rfl) hg, h3⟩
theorem TabG.kp {O : Nat → Prop} {W W' : World} {X : Nat → Prop} {g gn cap : Nat} {T : Tb} {vf : Value} (h : TabG W X g T gn cap vf) (hk : KpO O W W') (ho : ∀ k, X k → ¬ O k) : TabG W' X g T gn cap vf :=
  ⟨h.box.kp hk (ho g h.inG), own_kp h.nds hk (fun k e => by cases e; exact ho gn h.inN), own_kp h.free hk (fun k e => ho k (h.inF k e)), h.addr, h.inG, h.inN, h.inF, fun k hx => Nat.lt_of_lt_of_le (h.low k hx) hk.1⟩
def intOf9 : Value → Nat
  | .int _ i => i.toNat
  | _ => 0
theorem grown_of_below9 {w w' : World} (h : Below w.heap.size w w') : w.grownBy w' none := ⟨h.os, h.tape, h.output, h.size, fun k hk _ => h.block k hk⟩
def HeldA (Bt Bp g gn n : Nat) (v : Value) (l m : List Value) (W : World) : Prop :=
  W.cell? ⟨Bt, 0, none⟩ = some (.pointer (some ⟨g, 0, none⟩)) ∧ W.cell? ⟨g, 4, none⟩ = some v ∧ W.rangeAt gn (n * 22) l ∧ Bx W Bp 25 m
def HeldN (_W : World) : Prop := True
set_option maxRecDepth 100000 in
set_option maxHeartbeats 4000000 in
theorem above1_in (n : Nat) (_hn : 1 ≤ n) (l Bt Bp : Nat) (q : Pfx) (hq : q.addr.length = 16) (w0 : World) (X : Nat → Prop) (g : Nat) (T : Tb) (O : Nat → Prop) (f : Nat) (items : List (Pfx × Int)) (hI : aboveN f T.nds T.root q = some items) (J Jx : List It → World → Prop)
    (hY : ∀ pre x W, J pre W → pre.length < items.length → YieldAt Fence.wide (n - 1) Try.prog l #[itV x.1.1 x.1.2] W fun e W' =>
      (e = .returned (.bool true) ∧ J (pre ++ [x]) W' ∧ KpO O W W') ∨ (e = .returned (.bool false) ∧ Jx (pre ++ [x]) W'))
    (W : World) (hT : TabM W X g T) (hJ : AbidesFrom W.heap.size J) (hW : w0.heap.size ≤ W.heap.size) (hBt : Bx W Bt 66 [.pointer (some ⟨g, 0, none⟩)]) (hBp : Bx W Bp 25 q.row) (hO : ∀ k, O k → k < w0.heap.size ∧ ¬ X k ∧ k ≠ Bt ∧ k ≠ Bp) (h0 : J [] W) :
    CallsIn Fence.wide n Try.prog 70 #[.func (.yield l) #[] #[], .pointer (some ⟨Bt, 0, none⟩), .pointer (some ⟨Bp, 0, none⟩)] W fun e W' => (∃ v, e = .returned v) ∧
      ((∃ ys, itemsT ys = items ∧ J ys W') ∨ (∃ pre, itemsT pre <+: items ∧ Jx pre W')) := by
  obtain ⟨gn, cap, vf, hG⟩ := hT
  have c0 : W.cell? ⟨Bt, 0, none⟩ = some (.pointer (some ⟨g, 0, none⟩)) := by rw [hBt.cell]; rfl
  have c3 := hG.c3
  have HG := Lib.hid hG
  have HQ := Lib.hid hq
  have HB := Lib.hid (⟨hBt, hBp⟩ : _ ∧ _)
  have hcaps := hG.caps
  unfold maxLen at hcaps
  clear hBt hBp hG hq
  refine callsIn_of_wp Try.func70 rfl trivial ?_ rfl
  simp only [Try.ntmps70, List.size_toArray, List.length_cons, List.length_nil, Nat.reduceAdd, Nat.reduceSub, Array.replicate_succ, Array.replicate_zero, List.push_toArray, List.append_toArray, List.nil_append, List.cons_append]
  gi_wp2
  gi_loopw [4] (fun r wr => ∃ (m f' : Nat) (pre : List It) (rest : List (Pfx × Int)), r = .int .i64 (m : Int) ∧ f' ≤ f ∧ aboveN f' T.nds m q = some rest ∧ items = itemsT pre ++ rest ∧ J pre wr ∧ TabG wr X g T gn cap vf ∧ Bx wr Bt 66 [.pointer (some ⟨g, 0, none⟩)] ∧ Bx wr Bp 25 q.row ∧ w0.heap.size ≤ wr.heap.size) (fun r _ => cntN f T.nds (intOf9 r) q)
  case atStart => exact ⟨T.root, f, [], items, rfl, Nat.le_refl _, hI, rfl, h0, HG.out, HB.out.1, HB.out.2, hW⟩
  case round =>
    obtain ⟨m, f', pre, rest, rfl, hf', hA, hit, hJs, hGr, hBtr, hBpr, hwr⟩ := hrel
    clear c0 c3
    cases f' with
    | zero => cases hA
    | succ f' =>
    unfold aboveN at hA
    by_cases hm : m = 0
    · rw [if_pos hm] at hA
      subst hm
      obtain rfl : rest = [] := by cases hA; rfl
      gi_wp2
      refine wpIn_wide.2 ?_
      refine wp_region_noPanic ?_
      refine wp_region_held_drew (S := HeldN) (by kernel_rfl) trivial (fun hHeld => ?_)
      refine held_take (v := ?v153) 0 rfl (by kernel_rfl) (by kernel_rfl) (by kernel_rfl) (fun _ _ _ h => h) (by rfl) ?y153 (by assumption) ?_
      case y153 => (intro w hSw; unfold HeldN at hSw; go_simp; (try with_reducible rfl); (try omega))
      simp only [List.setIfInBounds_toArray, List.set_cons_zero, List.set_cons_succ]
      refine held_take (v := ?v156) 1 rfl (by kernel_rfl) (by kernel_rfl) (by kernel_rfl) (fun _ _ _ h => h) (by rfl) ?y156 (by assumption) ?_
      case y156 => (intro w hSw; unfold HeldN at hSw; go_simp; (try with_reducible rfl); (try omega))
      simp only [List.setIfInBounds_toArray, List.set_cons_zero, List.set_cons_succ]
      refine held_take (v := ?v159) 2 rfl (by kernel_rfl) (by kernel_rfl) (by kernel_rfl) (fun _ _ _ h => h) (by rfl) ?y159 (by assumption) ?_
      case y159 => (intro w hSw; unfold HeldN at hSw; go_simp; (try with_reducible rfl); (try omega))
      simp only [List.setIfInBounds_toArray, List.set_cons_zero, List.set_cons_succ]
      refine held_skip 3 rfl (by kernel_rfl) (by kernel_rfl) (by kernel_rfl) (fun _ _ _ h => h) (by rfl) (by assumption) ?_
      simp only [List.setIfInBounds_toArray, List.set_cons_zero, List.set_cons_succ]
      refine held_skip 4 rfl (by kernel_rfl) (by kernel_rfl) (by kernel_rfl) (fun _ _ _ h => h) (by rfl) (by assumption) ?_
      simp only [List.setIfInBounds_toArray, List.set_cons_zero, List.set_cons_succ]
      refine held_skip 5 rfl (by kernel_rfl) (by kernel_rfl) (by kernel_rfl) (fun _ _ _ h => h) (by rfl) (by assumption) ?_
      simp only [List.setIfInBounds_toArray, List.set_cons_zero, List.set_cons_succ]
      refine held_skip 6 rfl (by kernel_rfl) (by kernel_rfl) (by kernel_rfl) (fun _ _ _ h => h) (by rfl) (by assumption) ?_
      simp only [List.setIfInBounds_toArray, List.set_cons_zero, List.set_cons_succ]
      refine held_skip 7 rfl (by kernel_rfl) (by kernel_rfl) (by kernel_rfl) (fun _ _ _ h => h) (by rfl) (by assumption) ?_
      simp only [List.setIfInBounds_toArray, List.set_cons_zero, List.set_cons_succ]
      refine held_skip 8 rfl (by kernel_rfl) (by kernel_rfl) (by kernel_rfl) (fun _ _ _ h => h) (by rfl) (by assumption) ?_
      simp only [List.setIfInBounds_toArray, List.set_cons_zero, List.set_cons_succ]
      refine held_skip 9 rfl (by kernel_rfl) (by kernel_rfl) (by kernel_rfl) (fun _ _ _ h => h) (by rfl) (by assumption) ?_
      simp only [List.setIfInBounds_toArray, List.set_cons_zero, List.set_cons_succ]
      refine held_skip 10 rfl (by kernel_rfl) (by kernel_rfl) (by kernel_rfl) (fun _ _ _ h => h) (by rfl) (by assumption) ?_
      simp only [List.setIfInBounds_toArray, List.set_cons_zero, List.set_cons_succ]
      refine held_skip 11 rfl (by kernel_rfl) (by kernel_rfl) (by kernel_rfl) (fun _ _ _ h => h) (by rfl) (by assumption) ?_
      simp only [List.setIfInBounds_toArray, List.set_cons_zero, List.set_cons_succ]
      refine held_skip 12 rfl (by kernel_rfl) (by kernel_rfl) (by kernel_rfl) (fun _ _ _ h => h) (by rfl) (by assumption) ?_
      simp only [List.setIfInBounds_toArray, List.set_cons_zero, List.set_cons_succ]
      refine held_skip 13 rfl (by kernel_rfl) (by kernel_rfl) (by kernel_rfl) (fun _ _ _ h => h) (by rfl) (by assumption) ?_
      simp only [List.setIfInBounds_toArray, List.set_cons_zero, List.set_cons_succ]
      refine held_take (v := ?v184) 14 rfl (by kernel_rfl) (by kernel_rfl) (by kernel_rfl) (fun _ _ _ h => h) (by rfl) ?y184 (by assumption) ?_
      case y184 => (intro w hSw; unfold HeldN at hSw; go_simp; (try with_reducible rfl); (try omega))
      simp only [List.setIfInBounds_toArray, List.set_cons_zero, List.set_cons_succ]
      refine wpAnyH_done (by kernel_rfl) ?_ _
      refine NoPanic.normal ?_
      gi_wp2
      go_end0
      exact ⟨⟨_, rfl⟩, .inl ⟨pre, by rw [hit]; simp, hJ _ _ _ none hJs (grown_of_below9 (Below.refl _ _).drew) (fun r e => by cases e)⟩⟩
    · rw [if_neg hm] at hA
      split at hA
      · cases hA
      rename_i d hd
      have hml : m < T.nds.length := (List.getElem?_eq_some_iff.1 hd).1
      have fd := HG.out.addr d (List.mem_of_getElem? hd)
      have HD := Lib.hid fd
      have HC := Lib.hid (fun W => covers_any d.p q W fd HQ.out)
      have hi0 : (m : Int) ≠ 0 := by omega
      have hi1 : ((m : Int) == 0) = false := by simpa using hi0
      have hi2 : ((m : Int) != 0) = true := by simpa using hi0
      have hi3 : (m : Int) < (T.nds.length : Int) := by omega
      have R1 := hGr.range m d hd
      have R2 : wr.rangeAt gn (m * 22) d.p.row := fun j v hv => by
        refine R1 j v ?_
        unfold Nd.row
        rw [List.getElem?_append_left (List.getElem?_eq_some_iff.1 hv).1]
        exact hv
      have hHA : HeldA Bt Bp g gn m (.slice (some ⟨gn, 0, none⟩) T.nds.length cap) d.p.row q.row wr := ⟨by rw [hBtr.cell]; rfl, hGr.c4, R2, hBpr⟩
      have HHA := Lib.hid (fun W1 (hb1 : Below wr.heap.size wr W1) => (⟨(hb1.cell (p := ⟨Bt, 0, none⟩) hBtr.lt).trans hHA.1, (hb1.cell (p := ⟨g, 4, none⟩) hGr.box.lt).trans hHA.2.1, fun j v hv => (hb1.cell (p := ⟨gn, m * 22 + j, none⟩) (hGr.low gn hGr.inN)).trans (R2 j v hv), hBpr.up hb1⟩ : HeldA Bt Bp g gn m (.slice (some ⟨gn, 0, none⟩) T.nds.length cap) d.p.row q.row W1))
      have HGR := Lib.hid hGr
      have HBTR := Lib.hid hBtr
      have HBPR := Lib.hid hBpr
      clear fd R1 R2 hHA hGr hBtr hBpr
      cases hc : covP d.p q with
      | false =>
        rw [if_neg (by rw [hc]; simp)] at hA
        obtain rfl : rest = [] := by cases hA; rfl
        rw [hc] at HC
        gi_wp2
        refine wpIn_wide.2 ?_
        refine wp_region_noPanic ?_
        refine wp_region_held_drew (S := HeldA Bt Bp g gn m (.slice (some ⟨gn, 0, none⟩) T.nds.length cap) d.p.row q.row) (by kernel_rfl) (HHA.out _ (Below.refl _ _).drew) (fun hHeld => ?_)
        refine held_take (v := ?v225) 0 rfl (by kernel_rfl) (by kernel_rfl) (by kernel_rfl) (fun _ _ _ h => h) (by rfl) ?y225 (by assumption) ?_
        case y225 => (intro w hSw; unfold HeldA at hSw; go_simp; (try with_reducible rfl); (try omega))
        simp only [List.setIfInBounds_toArray, List.set_cons_zero, List.set_cons_succ]
        refine held_take (v := ?v228) 1 rfl (by kernel_rfl) (by kernel_rfl) (by kernel_rfl) (fun _ _ _ h => h) (by rfl) ?y228 (by assumption) ?_
        case y228 => (intro w hSw; unfold HeldA at hSw; go_simp; (try with_reducible rfl); (try omega))
        simp only [List.setIfInBounds_toArray, List.set_cons_zero, List.set_cons_succ]
        refine held_take (v := ?v231) 2 rfl (by kernel_rfl) (by kernel_rfl) (by kernel_rfl) (fun _ _ _ h => h) (by rfl) ?y231 (by assumption) ?_
        case y231 => (intro w hSw; unfold HeldA at hSw; go_simp; (try with_reducible rfl); (try omega))
        simp only [List.setIfInBounds_toArray, List.set_cons_zero, List.set_cons_succ]
        refine held_take (v := ?v234) 3 rfl (by kernel_rfl) (by kernel_rfl) (by kernel_rfl) (fun _ _ _ h => h) (by rfl) ?y234 (by assumption) ?_
        case y234 => (intro w hSw; unfold HeldA at hSw; go_simp; (try with_reducible rfl); (try omega))
        simp only [List.setIfInBounds_toArray, List.set_cons_zero, List.set_cons_succ]
        refine held_take (v := ?v237) 4 rfl (by kernel_rfl) (by kernel_rfl) (by kernel_rfl) (fun _ _ _ h => h) (by rfl) ?y237 (by assumption) ?_
        case y237 => (intro w hSw; unfold HeldA at hSw; go_simp; (try with_reducible rfl); (try omega))
        simp only [List.setIfInBounds_toArray, List.set_cons_zero, List.set_cons_succ]
        refine held_take (v := ?v240) 5 rfl (by kernel_rfl) (by kernel_rfl) (by kernel_rfl) (fun _ _ _ h => h) (by rfl) ?y240 (by assumption) ?_
        case y240 => (intro w hSw; unfold HeldA at hSw; go_simp; (try with_reducible rfl); (try omega))
        simp only [List.setIfInBounds_toArray, List.set_cons_zero, List.set_cons_succ]
        refine held_take (v := ?v243) 6 rfl (by kernel_rfl) (by kernel_rfl) (by kernel_rfl) (fun _ _ _ h => h) (by rfl) ?y243 (by assumption) ?_
        case y243 => (intro w hSw; unfold HeldA at hSw; go_simp; (try with_reducible rfl); (try omega))
        simp only [List.setIfInBounds_toArray, List.set_cons_zero, List.set_cons_succ]
        refine held_take (v := ?v246) 7 rfl (by kernel_rfl) (by kernel_rfl) (by kernel_rfl) (fun _ _ _ h => h) (by rfl) ?y246 (by assumption) ?_
        case y246 => (intro w hSw; unfold HeldA at hSw; go_simp; (try with_reducible rfl); (try omega))
        simp only [List.setIfInBounds_toArray, List.set_cons_zero, List.set_cons_succ]
        refine held_take (v := ?v249) 8 rfl (by kernel_rfl) (by kernel_rfl) (by kernel_rfl) (fun _ _ _ h => h) (by rfl) ?y249 (by assumption) ?_
        case y249 => (intro w hSw; unfold HeldA at hSw; go_simp; (try with_reducible rfl); (try omega))
        simp only [List.setIfInBounds_toArray, List.set_cons_zero, List.set_cons_succ]
        refine held_take (v := ?v252) 9 rfl (by kernel_rfl) (by kernel_rfl) (by kernel_rfl) (fun _ _ _ h => h) (by rfl) ?y252 (by assumption) ?_
        case y252 => (intro w hSw; unfold HeldA at hSw; go_simp; (try with_reducible rfl); (try omega))
        simp only [List.setIfInBounds_toArray, List.set_cons_zero, List.set_cons_succ]
        refine held_take (v := ?v255) 10 rfl (by kernel_rfl) (by kernel_rfl) (by kernel_rfl) (fun _ _ _ h => h) (by rfl) ?y255 (by assumption) ?_
        case y255 => (intro w hSw; unfold HeldA at hSw; go_simp; (try with_reducible rfl); (try omega))
        simp only [List.setIfInBounds_toArray, List.set_cons_zero, List.set_cons_succ]
        refine held_take (v := d.p.val) 11 rfl (by kernel_rfl) (by kernel_rfl) (by kernel_rfl) (fun _ _ _ h => h) (by rfl) (fun W hSw => exec_load_any _ (.tmp 20) rfl gn (m * 22) d.p.row _ rfl hSw.2.2.1 Try.underlying25 rfl (pf_infoC HD.out)) (by assumption) ?_
        simp only [List.setIfInBounds_toArray, List.set_cons_zero, List.set_cons_succ]
        refine held_take (v := q.val) 12 rfl (by kernel_rfl) (by kernel_rfl) (by kernel_rfl) (fun _ _ _ h => h) (by rfl) (fun W hSw => exec_load_any _ (.tmp 2) rfl Bp 0 q.row _ rfl (rangeAll hSw.2.2.2) Try.underlying25 rfl (pf_infoC HQ.out)) (by assumption) ?_
        simp only [List.setIfInBounds_toArray, List.set_cons_zero, List.set_cons_succ]
        refine held_one 13 rfl (by kernel_rfl) (by rfl) (fun K hK => ?_)
        go_simp
        refine (HC.out _).mono ?_
        rintro e w1 ⟨rfl, b1⟩
        have hb1 : Below wr.heap.size wr w1 := (Below.refl wr.heap.size wr).drew.trans b1
        have hH1 := HHA.out _ hb1
        refine hK.out _ _ hH1 (fun _ => ?_)
        clear hK K
        refine held_take (v := ?v270) 14 rfl (by kernel_rfl) (by kernel_rfl) (by kernel_rfl) (fun _ _ _ h => h) (by rfl) ?y270 (by assumption) ?_
        case y270 => (intro w hSw; unfold HeldA at hSw; go_simp; (try with_reducible rfl); (try omega))
        simp only [List.setIfInBounds_toArray, List.set_cons_zero, List.set_cons_succ]
        refine wpAnyH_done (by kernel_rfl) ?_ _
        refine NoPanic.normal ?_
        gi_wp2
        go_end0
        exact ⟨⟨_, rfl⟩, .inl ⟨pre, by rw [hit]; simp, hJ _ _ _ none hJs (grown_of_below9 hb1) (fun r e => by cases e)⟩⟩
      | true =>
        rw [if_pos hc] at hA
        rw [hc] at HC
        split at hA
        · cases hA
        rename_i rest1 hA1
        obtain rfl : rest = ownN d ++ rest1 := by cases hA; rfl
        gi_wp2
        refine wpIn_wide.2 ?_
        refine wp_region_noPanic ?_
        refine wp_region_held_drew (S := HeldA Bt Bp g gn m (.slice (some ⟨gn, 0, none⟩) T.nds.length cap) d.p.row q.row) (by kernel_rfl) (HHA.out _ (Below.refl _ _).drew) (fun hHeld => ?_)
        refine held_take (v := ?v289) 0 rfl (by kernel_rfl) (by kernel_rfl) (by kernel_rfl) (fun _ _ _ h => h) (by rfl) ?y289 (by assumption) ?_
        case y289 => (intro w hSw; unfold HeldA at hSw; go_simp; (try with_reducible rfl); (try omega))
        simp only [List.setIfInBounds_toArray, List.set_cons_zero, List.set_cons_succ]
        refine held_take (v := ?v292) 1 rfl (by kernel_rfl) (by kernel_rfl) (by kernel_rfl) (fun _ _ _ h => h) (by rfl) ?y292 (by assumption) ?_
        case y292 => (intro w hSw; unfold HeldA at hSw; go_simp; (try with_reducible rfl); (try omega))
        simp only [List.setIfInBounds_toArray, List.set_cons_zero, List.set_cons_succ]
        refine held_take (v := ?v295) 2 rfl (by kernel_rfl) (by kernel_rfl) (by kernel_rfl) (fun _ _ _ h => h) (by rfl) ?y295 (by assumption) ?_
        case y295 => (intro w hSw; unfold HeldA at hSw; go_simp; (try with_reducible rfl); (try omega))
        simp only [List.setIfInBounds_toArray, List.set_cons_zero, List.set_cons_succ]
        refine held_take (v := ?v298) 3 rfl (by kernel_rfl) (by kernel_rfl) (by kernel_rfl) (fun _ _ _ h => h) (by rfl) ?y298 (by assumption) ?_
        case y298 => (intro w hSw; unfold HeldA at hSw; go_simp; (try with_reducible rfl); (try omega))
        simp only [List.setIfInBounds_toArray, List.set_cons_zero, List.set_cons_succ]
        refine held_take (v := ?v301) 4 rfl (by kernel_rfl) (by kernel_rfl) (by kernel_rfl) (fun _ _ _ h => h) (by rfl) ?y301 (by assumption) ?_
        case y301 => (intro w hSw; unfold HeldA at hSw; go_simp; (try with_reducible rfl); (try omega))
        simp only [List.setIfInBounds_toArray, List.set_cons_zero, List.set_cons_succ]
        refine held_take (v := ?v304) 5 rfl (by kernel_rfl) (by kernel_rfl) (by kernel_rfl) (fun _ _ _ h => h) (by rfl) ?y304 (by assumption) ?_
        case y304 => (intro w hSw; unfold HeldA at hSw; go_simp; (try with_reducible rfl); (try omega))
        simp only [List.setIfInBounds_toArray, List.set_cons_zero, List.set_cons_succ]
        refine held_take (v := ?v307) 6 rfl (by kernel_rfl) (by kernel_rfl) (by kernel_rfl) (fun _ _ _ h => h) (by rfl) ?y307 (by assumption) ?_
        case y307 => (intro w hSw; unfold HeldA at hSw; go_simp; (try with_reducible rfl); (try omega))
        simp only [List.setIfInBounds_toArray, List.set_cons_zero, List.set_cons_succ]
        refine held_take (v := ?v310) 7 rfl (by kernel_rfl) (by kernel_rfl) (by kernel_rfl) (fun _ _ _ h => h) (by rfl) ?y310 (by assumption) ?_
        case y310 => (intro w hSw; unfold HeldA at hSw; go_simp; (try with_reducible rfl); (try omega))
        simp only [List.setIfInBounds_toArray, List.set_cons_zero, List.set_cons_succ]
        refine held_take (v := ?v313) 8 rfl (by kernel_rfl) (by kernel_rfl) (by kernel_rfl) (fun _ _ _ h => h) (by rfl) ?y313 (by assumption) ?_
        case y313 => (intro w hSw; unfold HeldA at hSw; go_simp; (try with_reducible rfl); (try omega))
        simp only [List.setIfInBounds_toArray, List.set_cons_zero, List.set_cons_succ]
        refine held_take (v := ?v316) 9 rfl (by kernel_rfl) (by kernel_rfl) (by kernel_rfl) (fun _ _ _ h => h) (by rfl) ?y316 (by assumption) ?_
        case y316 => (intro w hSw; unfold HeldA at hSw; go_simp; (try with_reducible rfl); (try omega))
        simp only [List.setIfInBounds_toArray, List.set_cons_zero, List.set_cons_succ]
        refine held_take (v := ?v319) 10 rfl (by kernel_rfl) (by kernel_rfl) (by kernel_rfl) (fun _ _ _ h => h) (by rfl) ?y319 (by assumption) ?_
        case y319 => (intro w hSw; unfold HeldA at hSw; go_simp; (try with_reducible rfl); (try omega))
        simp only [List.setIfInBounds_toArray, List.set_cons_zero, List.set_cons_succ]
        refine held_take (v := d.p.val) 11 rfl (by kernel_rfl) (by kernel_rfl) (by kernel_rfl) (fun _ _ _ h => h) (by rfl) (fun W hSw => exec_load_any _ (.tmp 20) rfl gn (m * 22) d.p.row _ rfl hSw.2.2.1 Try.underlying25 rfl (pf_infoC HD.out)) (by assumption) ?_
        simp only [List.setIfInBounds_toArray, List.set_cons_zero, List.set_cons_succ]
        refine held_take (v := q.val) 12 rfl (by kernel_rfl) (by kernel_rfl) (by kernel_rfl) (fun _ _ _ h => h) (by rfl) (fun W hSw => exec_load_any _ (.tmp 2) rfl Bp 0 q.row _ rfl (rangeAll hSw.2.2.2) Try.underlying25 rfl (pf_infoC HQ.out)) (by assumption) ?_
        simp only [List.setIfInBounds_toArray, List.set_cons_zero, List.set_cons_succ]
        refine held_one 13 rfl (by kernel_rfl) (by rfl) (fun K hK => ?_)
        go_simp
        refine (HC.out _).mono ?_
        rintro e w1 ⟨rfl, b1⟩
        have hb1 : Below wr.heap.size wr w1 := (Below.refl wr.heap.size wr).drew.trans b1
        have hH1 := HHA.out _ hb1
        refine hK.out _ _ hH1 (fun _ => ?_)
        clear hK K
        refine held_take (v := ?v334) 14 rfl (by kernel_rfl) (by kernel_rfl) (by kernel_rfl) (fun _ _ _ h => h) (by rfl) ?y334 (by assumption) ?_
        case y334 => (intro w hSw; unfold HeldA at hSw; go_simp; (try with_reducible rfl); (try omega))
        simp only [List.setIfInBounds_toArray, List.set_cons_zero, List.set_cons_succ]
        refine wpAnyH_done (by kernel_rfl) ?_ _
        refine NoPanic.normal ?_
        have hJ1 := hJ _ _ _ none hJs (grown_of_below9 hb1) (fun r e => by cases e)
        have hwr1 := Nat.le_trans hwr hb1.size
        have hBt1 := HBTR.out.up hb1
        have hBp1 := HBPR.out.up hb1
        have hG1 := HGR.out.up hb1
        have c4 := hG1.c4
        have c0 : w1.cell? ⟨Bt, 0, none⟩ = some (.pointer (some ⟨g, 0, none⟩)) := hH1.1
        have R3 := Lib.hid (hG1.range m d hd)
        have HG1 := Lib.hid hG1
        clear hJs hwr hb1 b1 hH1 hHeld HHA HGR hG1 HBTR HBPR
        have HS := Lib.hid (fun W => side_any d q W HD.out HQ.out)
        obtain ⟨s, hs⟩ : ∃ s, sideB q.addr d.p.len = s := ⟨_, rfl⟩
        have HSD := Lib.hid hs
        rw [hs] at HS hA1
        clear hs
        obtain ⟨k, hk⟩ : ∃ k : Nat, k = if s then 1 else 0 := ⟨_, rfl⟩
        rw [show (if s = true then (1 : Int) else 0) = (k : Int) by rw [hk]; cases s <;> rfl] at HS
        have hk2 : k < 2 := by rw [hk]; cases s <;> decide
        have HK := Lib.hid hk
        have hk3 : (k : Int) < 2 := by omega
        clear hk
        have HNN := Lib.hid (Bx.new w1 111 d.row)
        have hbN : Below w1.heap.size w1 (w1.alloc (.cells d.row.toArray 111)) := (Below.refl _ _).alloc (Nat.le_refl _) _
        have hJN := hJ _ _ _ none hJ1 (grown_of_below9 hbN) (fun r e => by cases e)
        have HGN := Lib.hid (HG1.out.up hbN)
        have HBTN := Lib.hid (hBt1.up hbN)
        have HBPN := Lib.hid (hBp1.up hbN)
        have hwN := Nat.le_trans hwr1 hbN.size
        have c19 : (w1.alloc (.cells d.row.toArray 111)).cell? ⟨w1.heap.size, 19, none⟩ = some (.bool d.held) := by rw [HNN.out.cell]; exact nd_held HD.out
        gi_wp2_with (first
          | (refine inV rfl (by intro c h; cases h) rfl d.val (exec_load_any _ (.tmp 30) rfl gn (m * 22) d.row _ rfl R3.out Try.underlying111 rfl (nd_infoC HD.out)) ?_)
          | (refine inS rfl (by intro c h; cases h) rfl (exec_store_fresh _ (.tmp 5) (.tmp 31) rfl d.row _ w1.heap.size rfl rfl rfl (nd_infoC HD.out) (by rw [nd_len HD.out]; rfl) (nd_one d)) ?_; refine Hid.out ?_))
        refine Lib.hid ?_
        have hxN : w0.heap.size ≤ w1.heap.size := hwr1
        clear hJ1 hBt1 hBp1 hwr1 c4 c0 hbN R3 HG1
        generalize hWN : w1.alloc (.cells d.row.toArray 111) = WN at *
        clear hWN
        have HI := Lib.hid (HNN.out.range 0 (itR d.p d.v) nd_it)
        cases hh : d.held with
        | false =>
          rw [hh] at c19
          have RA := Lib.hid (rangeAll HNN.out)
          have RB := Lib.hid (rangeAll HBPN.out)
          have HN3 := HNN
          have HJ3 := Lib.hid hJN
          have HG3 := HGN
          have HBT3 := HBTN
          have HBP3 := HBPN
          have hw3 := hwN
          have eqn : items = itemsT pre ++ rest1 := by rw [hit]; unfold ownN; rw [hh]; rfl
          gi_wp2
          refine ⟨fun _ h => (by cases h), ?_⟩
          gi_wp2_with (first
            | (refine inV rfl (by intro c h; cases h) rfl d.val (exec_load_any _ (.tmp 5) rfl w1.heap.size 0 d.row _ rfl RA.out Try.underlying111 rfl (nd_infoC HD.out)) ?_)
            | (refine inV rfl (by intro c h; cases h) rfl q.val (exec_load_any _ (.tmp 2) rfl Bp 0 q.row _ rfl RB.out Try.underlying25 rfl (pf_infoC HQ.out)) ?_)
            | (refine ⟨trivial, ?_⟩; gi_at_call 66; refine (callsIn_wide.2 (HS.out _)).mono ?_; rintro e w4 ⟨rfl, b4⟩; refine Hid.out ?_))
          refine Lib.hid ?_
          have hkc := kid_cell HD.out (HN3.out.up b4) s k HK.out
          gi_wp2
          go_roundw
          case rel =>
            exact ⟨d.kid s, f', pre, rest1, rfl, by omega, hA1, eqn, hJ _ _ _ none HJ3.out (grown_of_below9 b4) (fun r e => by cases e), HG3.out.up b4, HBT3.out.up b4, HBP3.out.up b4, Nat.le_trans hw3 b4.size⟩
          case measure =>
            have e1 := cnt_eq T.nds q f' (f - 1) _ _ hA1 (by omega)
            have e2 := cnt_eq T.nds q f' f _ _ hA1 (by omega)
            show cntN f T.nds (intOf9 (.int .i64 ((d.kid s : Nat) : Int))) q < cntN f T.nds (intOf9 (.int .i64 (m : Int))) q
            simp only [intOf9, Int.toNat_natCast]
            have e3 : ∀ F, cntN (F + 1) T.nds m q = 1 + cntN F T.nds (d.kid s) q := fun F => by
              conv => lhs; unfold cntN
              rw [if_neg hm, hd]
              simp only
              rw [if_pos hc, HSD.out]
            have e4 := e3 (f - 1)
            rw [show f - 1 + 1 = f by omega] at e4
            omega
        | true =>
          rw [hh] at c19
          obtain ⟨fn, tmps, assign, body, hy, hR⟩ := hY pre ⟨(d.p, d.v), HD.out⟩ WN hJN (by
            rw [hit]; unfold ownN itemsT; rw [hh]; simp)
          dsimp only at hy
          gi_wp2_with (first
            | (refine inV rfl (by intro c h; cases h) rfl (itV d.p d.v) (exec_load_any _ (.tmp 36) rfl w1.heap.size 0 (itR d.p d.v) _ rfl HI.out Try.underlying44 rfl (it_infoC HD.out d.v)) ?_))
          refine hR.mono ?_
          clear hR hy
          rintro e W3 (⟨rfl, hJ3, hk3⟩ | ⟨rfl, hJx3⟩)
          · have hnO : ¬ O w1.heap.size := fun h => by have := (hO _ h).1; omega
            have HN3 := Lib.hid (HNN.out.kp hk3 hnO)
            have HBP3 := Lib.hid (HBPN.out.kp hk3 (fun h => (hO _ h).2.2.2 rfl))
            have HBT3 := Lib.hid (HBTN.out.kp hk3 (fun h => (hO _ h).2.2.1 rfl))
            have HG3 := Lib.hid (HGN.out.kp hk3 (fun k hx h => (hO _ h).2.1 hx))
            have RA := Lib.hid (rangeAll HN3.out)
            have RB := Lib.hid (rangeAll HBP3.out)
            have HJ3 := Lib.hid hJ3
            have hw3 := Nat.le_trans hwN hk3.1
            have eqn : items = itemsT (pre ++ [⟨(d.p, d.v), HD.out⟩]) ++ rest1 := by rw [hit]; unfold ownN itemsT; rw [hh]; simp
            clear hJ3 hk3 hJN HNN HI HGN HBTN HBPN c19
            gi_wp2_with (first
              | (refine inV rfl (by intro c h; cases h) rfl d.val (exec_load_any _ (.tmp 5) rfl w1.heap.size 0 d.row _ rfl RA.out Try.underlying111 rfl (nd_infoC HD.out)) ?_)
              | (refine inV rfl (by intro c h; cases h) rfl q.val (exec_load_any _ (.tmp 2) rfl Bp 0 q.row _ rfl RB.out Try.underlying25 rfl (pf_infoC HQ.out)) ?_)
              | (refine ⟨trivial, ?_⟩; gi_at_call 66; refine (callsIn_wide.2 (HS.out _)).mono ?_; rintro e w4 ⟨rfl, b4⟩; refine Hid.out ?_))
            refine Lib.hid ?_
            have hkc := kid_cell HD.out (HN3.out.up b4) s k HK.out
            gi_wp2
            go_roundw
            case rel =>
              exact ⟨d.kid s, f', _, rest1, rfl, by omega, hA1, eqn, hJ _ _ _ none HJ3.out (grown_of_below9 b4) (fun r e => by cases e), HG3.out.up b4, HBT3.out.up b4, HBP3.out.up b4, Nat.le_trans hw3 b4.size⟩
            case measure =>
              have e1 := cnt_eq T.nds q f' (f - 1) _ _ hA1 (by omega)
              have e2 := cnt_eq T.nds q f' f _ _ hA1 (by omega)
              show cntN f T.nds (intOf9 (.int .i64 ((d.kid s : Nat) : Int))) q < cntN f T.nds (intOf9 (.int .i64 (m : Int))) q
              simp only [intOf9, Int.toNat_natCast]
              have e3 : ∀ F, cntN (F + 1) T.nds m q = 1 + cntN F T.nds (d.kid s) q := fun F => by
                conv => lhs; unfold cntN
                rw [if_neg hm, hd]
                simp only
                rw [if_pos hc, HSD.out]
              have e4 := e3 (f - 1)
              rw [show f - 1 + 1 = f by omega] at e4
              omega
          · gi_wp2
            refine bodyPost_ret (results_none rfl _ _ _) rfl ?_
            refine ⟨⟨_, rfl⟩, .inr ⟨_, ?_, hJx3⟩⟩
            rw [hit]
            unfold ownN itemsT
            rw [hh]
            simp
end Go.Proofs.Ytgimcapcnidjjaa
namespace Go.Proofs.Ytgimcapcnidjjaa
open Go Go.RowKit Go.Shelf
attribute [local go_sem] Oper.semAt_some

theorem takes_nil (p : Pfx) (w : World) : Calls Try.prog 53 #[.pointer none, p.val] w fun e w' => e = .returned (.bool false) ∧ Below w.heap.size w w' := by
  have HB := Lib.hid ((Below.refl w.heap.size w).alloc (Nat.le_refl _) (.cells p.row.toArray 25))
  rw [show p.val = .agg p.row.toArray from rfl]
  go_enter Try.func53, Try.ntmps53
  go_wp2
  refine wp_region_noPanic ?_
  refine wp_region_held_drew (S := HeldN) (by kernel_rfl) trivial (fun hHeld => ?_)
  refine held_take (v := ?v477) 0 rfl (by kernel_rfl) (by kernel_rfl) (by kernel_rfl) (fun _ _ _ h => h) (by rfl) ?y477 (by assumption) ?_
  case y477 => (intro w hSw; unfold HeldN at hSw; go_simp; (try with_reducible rfl); (try omega))
  simp only [List.setIfInBounds_toArray, List.set_cons_zero, List.set_cons_succ]
  refine held_take (v := ?v480) 1 rfl (by kernel_rfl) (by kernel_rfl) (by kernel_rfl) (fun _ _ _ h => h) (by rfl) ?y480 (by assumption) ?_
  case y480 => (intro w hSw; unfold HeldN at hSw; go_simp; (try with_reducible rfl); (try omega))
  simp only [List.setIfInBounds_toArray, List.set_cons_zero, List.set_cons_succ]
  refine held_take (v := ?v483) 2 rfl (by kernel_rfl) (by kernel_rfl) (by kernel_rfl) (fun _ _ _ h => h) (by rfl) ?y483 (by assumption) ?_
  case y483 => (intro w hSw; unfold HeldN at hSw; go_simp; (try with_reducible rfl); (try omega))
  simp only [List.setIfInBounds_toArray, List.set_cons_zero, List.set_cons_succ]
  refine held_skip 3 rfl (by kernel_rfl) (by kernel_rfl) (by kernel_rfl) (fun _ _ _ h => h) (by rfl) (by assumption) ?_
  simp only [List.setIfInBounds_toArray, List.set_cons_zero, List.set_cons_succ]
  refine held_skip 4 rfl (by kernel_rfl) (by kernel_rfl) (by kernel_rfl) (fun _ _ _ h => h) (by rfl) (by assumption) ?_
  simp only [List.setIfInBounds_toArray, List.set_cons_zero, List.set_cons_succ]
  refine held_skip 5 rfl (by kernel_rfl) (by kernel_rfl) (by kernel_rfl) (fun _ _ _ h => h) (by rfl) (by assumption) ?_
  simp only [List.setIfInBounds_toArray, List.set_cons_zero, List.set_cons_succ]
  refine held_take (v := ?v492) 6 rfl (by kernel_rfl) (by kernel_rfl) (by kernel_rfl) (fun _ _ _ h => h) (by rfl) ?y492 (by assumption) ?_
  case y492 => (intro w hSw; unfold HeldN at hSw; go_simp; (try with_reducible rfl); (try omega))
  simp only [List.setIfInBounds_toArray, List.set_cons_zero, List.set_cons_succ]
  refine held_take (v := ?v495) 7 rfl (by kernel_rfl) (by kernel_rfl) (by kernel_rfl) (fun _ _ _ h => h) (by rfl) ?y495 (by assumption) ?_
  case y495 => (intro w hSw; unfold HeldN at hSw; go_simp; (try with_reducible rfl); (try omega))
  simp only [List.setIfInBounds_toArray, List.set_cons_zero, List.set_cons_succ]
  refine held_skip 8 rfl (by kernel_rfl) (by kernel_rfl) (by kernel_rfl) (fun _ _ _ h => h) (by rfl) (by assumption) ?_
  simp only [List.setIfInBounds_toArray, List.set_cons_zero, List.set_cons_succ]
  refine held_skip 9 rfl (by kernel_rfl) (by kernel_rfl) (by kernel_rfl) (fun _ _ _ h => h) (by rfl) (by assumption) ?_
  simp only [List.setIfInBounds_toArray, List.set_cons_zero, List.set_cons_succ]
  refine held_skip 10 rfl (by kernel_rfl) (by kernel_rfl) (by kernel_rfl) (fun _ _ _ h => h) (by rfl) (by assumption) ?_
  simp only [List.setIfInBounds_toArray, List.set_cons_zero, List.set_cons_succ]
  refine held_skip 11 rfl (by kernel_rfl) (by kernel_rfl) (by kernel_rfl) (fun _ _ _ h => h) (by rfl) (by assumption) ?_
  simp only [List.setIfInBounds_toArray, List.set_cons_zero, List.set_cons_succ]
  refine held_skip 12 rfl (by kernel_rfl) (by kernel_rfl) (by kernel_rfl) (fun _ _ _ h => h) (by rfl) (by assumption) ?_
  simp only [List.setIfInBounds_toArray, List.set_cons_zero, List.set_cons_succ]
  refine held_skip 13 rfl (by kernel_rfl) (by kernel_rfl) (by kernel_rfl) (fun _ _ _ h => h) (by rfl) (by assumption) ?_
  simp only [List.setIfInBounds_toArray, List.set_cons_zero, List.set_cons_succ]
  refine held_skip 14 rfl (by kernel_rfl) (by kernel_rfl) (by kernel_rfl) (fun _ _ _ h => h) (by rfl) (by assumption) ?_
  simp only [List.setIfInBounds_toArray, List.set_cons_zero, List.set_cons_succ]
  refine held_take (v := ?v512) 15 rfl (by kernel_rfl) (by kernel_rfl) (by kernel_rfl) (fun _ _ _ h => h) (by rfl) ?y512 (by assumption) ?_
  case y512 => (intro w hSw; unfold HeldN at hSw; go_simp; (try with_reducible rfl); (try omega))
  simp only [List.setIfInBounds_toArray, List.set_cons_zero, List.set_cons_succ]
  refine held_take (v := ?v515) 16 rfl (by kernel_rfl) (by kernel_rfl) (by kernel_rfl) (fun _ _ _ h => h) (by rfl) ?y515 (by assumption) ?_
  case y515 => (intro w hSw; unfold HeldN at hSw; go_simp; (try with_reducible rfl); (try omega))
  simp only [List.setIfInBounds_toArray, List.set_cons_zero, List.set_cons_succ]
  refine wpAnyH_done (by kernel_rfl) ?_ _
  refine NoPanic.normal ?_
  go_wp2
  go_ret
  exact ⟨rfl, HB.out.drew⟩
def HeldK (b g : Nat) (s : Bool) (l : List Value) (W : World) : Prop := Bx W b 25 l ∧ W.cell? ⟨b, 0, none⟩ = l[0]? ∧ W.cell? ⟨g, 0, none⟩ = some (.bool s)
set_option maxRecDepth 100000 in
set_option maxHeartbeats 4000000 in
theorem takes_any (T : Tb) (p : Pfx) (w : World) (X : Nat → Prop) (g : Nat) (h : TabM w X g T) (hp : p.addr.length = 16) :
    Calls Try.prog 53 #[.pointer (some ⟨g, 0, none⟩), p.val] w fun e w' => e = .returned (.bool (chkP p && (p.six == T.six))) ∧ Below w.heap.size w w' := by
  obtain ⟨gn, cap, vf, h⟩ := h
  have hb : Below w.heap.size w (w.alloc (.cells p.row.toArray 25)) := (Below.refl _ _).alloc (Nat.le_refl _) _
  have HC := Lib.hid (fun W => pcheck_any p W hp)
  have HP := Lib.hid hp
  have HB := Lib.hid hb
  have c0 := (h.up hb).c0
  have hbx := Bx.new w 25 p.row
  have hgl := h.box.lt
  have HH := Lib.hid (fun W (hb2 : Below (w.alloc (.cells p.row.toArray 25)).heap.size (w.alloc (.cells p.row.toArray 25)) W) =>
    (⟨hbx.up hb2, (hbx.up hb2).cell 0, (hb2.cell (p := ⟨g, 0, none⟩) (by simp; omega)).trans c0⟩ : HeldK w.heap.size g T.six p.row W))
  have HB2 := Lib.hid (fun W (hb2 : Below (w.alloc (.cells p.row.toArray 25)).heap.size (w.alloc (.cells p.row.toArray 25)) W) => below_up hb hb2 hb.size)
  have hrow : p.row[0]? = some (.bool p.six) := rfl
  rw [show p.val = .agg p.row.toArray from rfl]
  generalize p.six = s6 at *
  generalize T.six = t6 at *
  clear h hp hb c0 hbx
  go_enter Try.func53, Try.ntmps53
  go_wp2
  refine wp_region_noPanic ?_
  refine wp_region_held_drew (S := HeldK w.heap.size g t6 p.row) (by kernel_rfl) (HH.out _ (Below.refl _ _).drew) (fun hHeld => ?_)
  refine held_take (v := ?v548) 0 rfl (by kernel_rfl) (by kernel_rfl) (by kernel_rfl) (fun _ _ _ h => h) (by rfl) ?y548 (by assumption) ?_
  case y548 => (intro w hSw; unfold HeldK at hSw; go_simp; (try with_reducible rfl); (try omega))
  simp only [List.setIfInBounds_toArray, List.set_cons_zero, List.set_cons_succ]
  refine held_take (v := ?v551) 1 rfl (by kernel_rfl) (by kernel_rfl) (by kernel_rfl) (fun _ _ _ h => h) (by rfl) ?y551 (by assumption) ?_
  case y551 => (intro w hSw; unfold HeldK at hSw; go_simp; (try with_reducible rfl); (try omega))
  simp only [List.setIfInBounds_toArray, List.set_cons_zero, List.set_cons_succ]
  refine held_take (v := ?v554) 2 rfl (by kernel_rfl) (by kernel_rfl) (by kernel_rfl) (fun _ _ _ h => h) (by rfl) ?y554 (by assumption) ?_
  case y554 => (intro w hSw; unfold HeldK at hSw; go_simp; (try with_reducible rfl); (try omega))
  simp only [List.setIfInBounds_toArray, List.set_cons_zero, List.set_cons_succ]
  refine held_take (v := p.val) 3 rfl (by kernel_rfl) (by kernel_rfl) (by kernel_rfl) (fun _ _ _ h => h) (by rfl) (fun W hSw => exec_load_any _ (.tmp 3) rfl w.heap.size 0 p.row _ rfl (rangeAll hSw.1) Try.underlying25 rfl (pf_infoC HP.out)) (by assumption) ?_
  simp only [List.setIfInBounds_toArray, List.set_cons_zero, List.set_cons_succ]
  refine held_one 4 rfl (by kernel_rfl) (by rfl) (fun K hK => ?_)
  go_simp
  refine (HC.out _).mono ?_
  rintro e w1 ⟨rfl, b1⟩
  have hb1 := (Below.refl _ (w.alloc (.cells p.row.toArray 25))).drew.trans b1
  have hH1 := HH.out _ hb1
  have HB3 := Lib.hid (HB2.out _ hb1)
  refine hK.out _ _ hH1 (fun _ => ?_)
  clear hK K b1 hb1 hHeld
  cases hck : chkP p
  · simp only [Bool.false_eq_true, if_false]
    refine held_take (v := ?v570) 5 rfl (by kernel_rfl) (by kernel_rfl) (by kernel_rfl) (fun _ _ _ h => h) (by rfl) ?y570 (by assumption) ?_
    case y570 => (intro w hSw; unfold HeldK at hSw; go_simp; (try with_reducible rfl); (try omega))
    simp only [List.setIfInBounds_toArray, List.set_cons_zero, List.set_cons_succ]
    refine held_take (v := ?v573) 6 rfl (by kernel_rfl) (by kernel_rfl) (by kernel_rfl) (fun _ _ _ h => h) (by rfl) ?y573 (by assumption) ?_
    case y573 => (intro w hSw; unfold HeldK at hSw; go_simp; (try with_reducible rfl); (try omega))
    simp only [List.setIfInBounds_toArray, List.set_cons_zero, List.set_cons_succ]
    refine held_take (v := ?v576) 7 rfl (by kernel_rfl) (by kernel_rfl) (by kernel_rfl) (fun _ _ _ h => h) (by rfl) ?y576 (by assumption) ?_
    case y576 => (intro w hSw; unfold HeldK at hSw; go_simp; (try with_reducible rfl); (try omega))
    simp only [List.setIfInBounds_toArray, List.set_cons_zero, List.set_cons_succ]
    refine held_skip 8 rfl (by kernel_rfl) (by kernel_rfl) (by kernel_rfl) (fun _ _ _ h => h) (by rfl) (by assumption) ?_
    simp only [List.setIfInBounds_toArray, List.set_cons_zero, List.set_cons_succ]
    refine held_skip 9 rfl (by kernel_rfl) (by kernel_rfl) (by kernel_rfl) (fun _ _ _ h => h) (by rfl) (by assumption) ?_
    simp only [List.setIfInBounds_toArray, List.set_cons_zero, List.set_cons_succ]
    refine held_skip 10 rfl (by kernel_rfl) (by kernel_rfl) (by kernel_rfl) (fun _ _ _ h => h) (by rfl) (by assumption) ?_
    simp only [List.setIfInBounds_toArray, List.set_cons_zero, List.set_cons_succ]
    refine held_skip 11 rfl (by kernel_rfl) (by kernel_rfl) (by kernel_rfl) (fun _ _ _ h => h) (by rfl) (by assumption) ?_
    simp only [List.setIfInBounds_toArray, List.set_cons_zero, List.set_cons_succ]
    refine held_skip 12 rfl (by kernel_rfl) (by kernel_rfl) (by kernel_rfl) (fun _ _ _ h => h) (by rfl) (by assumption) ?_
    simp only [List.setIfInBounds_toArray, List.set_cons_zero, List.set_cons_succ]
    refine held_skip 13 rfl (by kernel_rfl) (by kernel_rfl) (by kernel_rfl) (fun _ _ _ h => h) (by rfl) (by assumption) ?_
    simp only [List.setIfInBounds_toArray, List.set_cons_zero, List.set_cons_succ]
    refine held_skip 14 rfl (by kernel_rfl) (by kernel_rfl) (by kernel_rfl) (fun _ _ _ h => h) (by rfl) (by assumption) ?_
    simp only [List.setIfInBounds_toArray, List.set_cons_zero, List.set_cons_succ]
    refine held_take (v := ?v593) 15 rfl (by kernel_rfl) (by kernel_rfl) (by kernel_rfl) (fun _ _ _ h => h) (by rfl) ?y593 (by assumption) ?_
    case y593 => (intro w hSw; unfold HeldK at hSw; go_simp; (try with_reducible rfl); (try omega))
    simp only [List.setIfInBounds_toArray, List.set_cons_zero, List.set_cons_succ]
    refine held_take (v := ?v596) 16 rfl (by kernel_rfl) (by kernel_rfl) (by kernel_rfl) (fun _ _ _ h => h) (by rfl) ?y596 (by assumption) ?_
    case y596 => (intro w hSw; unfold HeldK at hSw; go_simp; (try with_reducible rfl); (try omega))
    simp only [List.setIfInBounds_toArray, List.set_cons_zero, List.set_cons_succ]
    refine wpAnyH_done (by kernel_rfl) ?_ _
    refine NoPanic.normal ?_
    go_wp2
    go_ret
    exact ⟨by rw [hck]; rfl, HB3.out⟩
  · simp only [if_true]
    refine held_take (v := ?v605) 5 rfl (by kernel_rfl) (by kernel_rfl) (by kernel_rfl) (fun _ _ _ h => h) (by rfl) ?y605 (by assumption) ?_
    case y605 => (intro w hSw; unfold HeldK at hSw; go_simp; (try with_reducible rfl); (try omega))
    simp only [List.setIfInBounds_toArray, List.set_cons_zero, List.set_cons_succ]
    refine held_take (v := ?v608) 6 rfl (by kernel_rfl) (by kernel_rfl) (by kernel_rfl) (fun _ _ _ h => h) (by rfl) ?y608 (by assumption) ?_
    case y608 => (intro w hSw; unfold HeldK at hSw; go_simp; (try with_reducible rfl); (try omega))
    simp only [List.setIfInBounds_toArray, List.set_cons_zero, List.set_cons_succ]
    refine held_take (v := ?v611) 7 rfl (by kernel_rfl) (by kernel_rfl) (by kernel_rfl) (fun _ _ _ h => h) (by rfl) ?y611 (by assumption) ?_
    case y611 => (intro w hSw; unfold HeldK at hSw; go_simp; (try with_reducible rfl); (try omega))
    simp only [List.setIfInBounds_toArray, List.set_cons_zero, List.set_cons_succ]
    refine held_take (v := ?v614) 8 rfl (by kernel_rfl) (by kernel_rfl) (by kernel_rfl) (fun _ _ _ h => h) (by rfl) ?y614 (by assumption) ?_
    case y614 => (intro w hSw; unfold HeldK at hSw; go_simp; (try with_reducible rfl); (try omega))
    simp only [List.setIfInBounds_toArray, List.set_cons_zero, List.set_cons_succ]
    refine held_take (v := .bool s6) 9 rfl (by kernel_rfl) (by kernel_rfl) (by kernel_rfl) (fun _ _ _ h => h) (by rfl) (fun W hSw => (by have h1 : W.cell? ⟨w.heap.size, 0, none⟩ = some (.bool s6) := hSw.2.1.trans hrow; go_simp)) (by assumption) ?_
    simp only [List.setIfInBounds_toArray, List.set_cons_zero, List.set_cons_succ]
    refine held_take (v := ?v619) 10 rfl (by kernel_rfl) (by kernel_rfl) (by kernel_rfl) (fun _ _ _ h => h) (by rfl) ?y619 (by assumption) ?_
    case y619 => (intro w hSw; unfold HeldK at hSw; go_simp; (try with_reducible rfl); (try omega))
    simp only [List.setIfInBounds_toArray, List.set_cons_zero, List.set_cons_succ]
    refine held_take (v := ?v622) 11 rfl (by kernel_rfl) (by kernel_rfl) (by kernel_rfl) (fun _ _ _ h => h) (by rfl) ?y622 (by assumption) ?_
    case y622 => (intro w hSw; unfold HeldK at hSw; go_simp; (try with_reducible rfl); (try omega))
    simp only [List.setIfInBounds_toArray, List.set_cons_zero, List.set_cons_succ]
    refine held_take (v := ?v625) 12 rfl (by kernel_rfl) (by kernel_rfl) (by kernel_rfl) (fun _ _ _ h => h) (by rfl) ?y625 (by assumption) ?_
    case y625 => (intro w hSw; unfold HeldK at hSw; go_simp; (try with_reducible rfl); (try omega))
    simp only [List.setIfInBounds_toArray, List.set_cons_zero, List.set_cons_succ]
    refine held_take (v := ?v628) 13 rfl (by kernel_rfl) (by kernel_rfl) (by kernel_rfl) (fun _ _ _ h => h) (by rfl) ?y628 (by assumption) ?_
    case y628 => (intro w hSw; unfold HeldK at hSw; go_simp; (try with_reducible rfl); (try omega))
    simp only [List.setIfInBounds_toArray, List.set_cons_zero, List.set_cons_succ]
    refine held_take (v := .bool (s6 == t6)) 14 rfl (by kernel_rfl) (by kernel_rfl) (by kernel_rfl) (fun _ _ _ h => h) (by rfl) (fun W hSw => (by cases s6 <;> cases t6 <;> (go_simp; try rfl))) (by assumption) ?_
    simp only [List.setIfInBounds_toArray, List.set_cons_zero, List.set_cons_succ]
    refine held_take (v := ?v633) 15 rfl (by kernel_rfl) (by kernel_rfl) (by kernel_rfl) (fun _ _ _ h => h) (by rfl) ?y633 (by assumption) ?_
    case y633 => (intro w hSw; unfold HeldK at hSw; go_simp; (try with_reducible rfl); (try omega))
    simp only [List.setIfInBounds_toArray, List.set_cons_zero, List.set_cons_succ]
    refine held_take (v := ?v636) 16 rfl (by kernel_rfl) (by kernel_rfl) (by kernel_rfl) (fun _ _ _ h => h) (by rfl) ?y636 (by assumption) ?_
    case y636 => (intro w hSw; unfold HeldK at hSw; go_simp; (try with_reducible rfl); (try omega))
    simp only [List.setIfInBounds_toArray, List.set_cons_zero, List.set_cons_succ]
    refine wpAnyH_done (by kernel_rfl) ?_ _
    refine NoPanic.normal ?_
    go_wp2
    go_ret
    exact ⟨by rw [hck]; rfl, HB3.out⟩
set_option maxHeartbeats 1000000 in
theorem above_in (n : Nat) (g : Nat) (q : Pfx) (w : World) :
    CallsIn Fence.wide n Try.prog 58 #[.pointer (some ⟨g, 0, none⟩), q.val] w fun e w' => e = .returned (.func (.func 70) #[] #[.pointer (some ⟨w.heap.size, 0, none⟩), .pointer (some ⟨w.heap.size + 1, 0, none⟩)]) ∧
      w' = (w.alloc (.cells #[.pointer (some ⟨g, 0, none⟩)] 66)).alloc (.cells q.row.toArray 25) := by
  rw [show q.val = .agg q.row.toArray from rfl]
  refine callsIn_of_wp Try.func58 rfl trivial ?_ rfl
  simp only [Try.ntmps58, List.size_toArray, List.length_cons, List.length_nil, Nat.reduceAdd, Nat.reduceSub, Array.replicate_succ, Array.replicate_zero, List.push_toArray, List.append_toArray, List.nil_append, List.cons_append]
  gi_wp2
  go_ret
  exact ⟨rfl, rfl⟩
theorem above_stops (n : Nat) (hn : 1 ≤ n) (Bt Bp : Nat) (q : Pfx) (hq : q.addr.length = 16) (w : World) (X : Nat → Prop) (g : Nat) (T : Tb) (O : Nat → Prop) (f : Nat) (items : List (Pfx × Int)) (hI : aboveN f T.nds T.root q = some items)
    (hT : TabM w X g T) (hBt : Bx w Bt 66 [.pointer (some ⟨g, 0, none⟩)]) (hBp : Bx w Bp 25 q.row) (hO : ∀ k, O k → k < w.heap.size ∧ ¬ X k ∧ k ≠ Bt ∧ k ≠ Bp) :
    SeqStopsK Fence.wide n Try.prog 70 #[.pointer (some ⟨Bt, 0, none⟩), .pointer (some ⟨Bp, 0, none⟩)] (fun x : It => #[itV x.1.1 x.1.2]) (KpO O) (fun ys => itemsT ys = items) (fun pre => itemsT pre <+: items) items.length w := fun l J Jx W hW hJ _ hY h0 =>
  above1_in n hn l Bt Bp q hq w X g T O f items hI J Jx hY W (hT.up hW) hJ hW.size (hBt.up hW) (hBp.up hW) hO h0
/-! What speaks of cells alone. -/
theorem bx_from {X Y : World} {row : Option Nat} {B b : Nat} {t : TypeId} {l : List Value} (h : Bx X b t l) (hg : X.grownBy Y row) (hr : ∀ r, row = some r → B ≤ r ∧ ∃ o : Obj, X.heap[r]? = some o ∧ o.isCells = false) : Bx Y b t l := by
  refine (hg.block b h.lt (fun e => ?_)).trans h
  obtain ⟨_, o, ho, hc⟩ := hr b e.symm
  rw [show X.heap[b]? = _ from h] at ho
  cases ho
  cases hc
def getI (p : Pfx) : List (Pfx × Int) → Option Int
  | [] => none
  | x :: l => if eqP x.1 p = true then some x.2 else getI p l
theorem getI_no (p : Pfx) : ∀ l : List (Pfx × Int), (∀ x ∈ l, eqP x.1 p = false) → ∀ m, getI p (l ++ m) = getI p m
  | [], _, _ => rfl
  | x :: l, h, m => by
    rw [List.cons_append, getI, if_neg (by rw [h x (by simp)]; simp)]
    exact getI_no p l (fun y hy => h y (by simp [hy])) m
/-- Between two rounds of Get's loop, and where one has returned. -/
structure GetI (w : World) (p : Pfx) (v : Int) (b : Bool) (W : World) : Prop where
  r0 : Bx W w.heap.size 25 p.row
  r1 : Bx W (w.heap.size + 1) 3 [.int .i64 v]
  r2 : Bx W (w.heap.size + 1 + 1) 4 [.bool b]
  below : Below w.heap.size w W
theorem GetI.from {w : World} {p : Pfx} {v : Int} {b : Bool} {B : Nat} (hB : w.heap.size ≤ B) {X Y : World} {row : Option Nat} (h : GetI w p v b X) (hg : X.grownBy Y row) (hr : ∀ r, row = some r → B ≤ r ∧ ∃ o : Obj, X.heap[r]? = some o ∧ o.isCells = false) : GetI w p v b Y :=
  ⟨bx_from h.r0 hg hr, bx_from h.r1 hg hr, bx_from h.r2 hg hr, ownFrom_below (β := Unit) (Nat.le_refl _) hB () X Y row h.below hg hr⟩
theorem GetI.up {w : World} {p : Pfx} {v : Int} {b : Bool} {W W' : World} (h : GetI w p v b W) (hb : Below W.heap.size W W') : GetI w p v b W' := ⟨h.r0.up hb, h.r1.up hb, h.r2.up hb, below_up h.below hb h.below.size⟩
def getIx (w : World) (p : Pfx) (c : Code) (pre : List It) (W : World) : Prop :=
  c = .ret ∧ ∃ pre0 x, pre = pre0 ++ [x] ∧ (∀ y ∈ itemsT pre0, eqP y.1 p = false) ∧ eqP x.1.1 p = true ∧ GetI w p x.1.2 true W
set_option maxRecDepth 100000 in
set_option maxHeartbeats 4000000 in
theorem get_tab (T : Tb) (p : Pfx) (w : World) (X : Nat → Prop) (g : Nat) (h : TabM w X g T) (hp : p.addr.length = 16) (ht : (chkP p && (p.six == T.six)) = true) (f : Nat) (items : List (Pfx × Int)) (hI : aboveN f T.nds T.root p = some items) :
    Calls Try.prog 38 #[.pointer (some ⟨g, 0, none⟩), p.val] w fun e w' => e = .returned (.tuple #[.int .i64 ((getI p items).getD 0), .bool (getI p items).isSome]) ∧ Below w.heap.size w w' := by
  have HT := Lib.hid (fun W (hW : TabM W X g T) => takes_any T p W X g hW hp)
  rw [ht] at HT
  have hz : GetI w p 0 false (((w.alloc (.cells p.row.toArray 25)).alloc (.cells #[.int .i64 0] 3)).alloc (.cells #[.bool false] 4)) := by
    refine ⟨((Bx.new w _ p.row).al _).al _, ?_, ?_, (((Below.refl _ _).alloc (Nat.le_refl _) _).alloc (by simp) _).alloc (by simp; omega) _⟩
    · have := (Bx.new (w.alloc (.cells p.row.toArray 25)) 3 [.int .i64 0]).al (.cells #[.bool false] 4)
      rwa [World.size_alloc] at this
    · have := Bx.new ((w.alloc (.cells p.row.toArray 25)).alloc (.cells #[.int .i64 0] 3)) 4 [.bool false]
      rwa [World.size_alloc, World.size_alloc] at this
  have HZ := Lib.hid hz
  have HTM := Lib.hid (h.up hz.below)
  have HL := Lib.hid h.low
  have HP := Lib.hid hp
  rw [show p.val = .agg p.row.toArray from rfl]
  clear h hp ht hz
  refine (callsIn_wide (n := 5)).1 ?_
  refine callsIn_of_wp_marks Try.func38 rfl trivial ?_ rfl
  simp only [Try.ntmps38, List.size_toArray, List.length_cons, List.length_nil, Nat.reduceAdd, Nat.reduceSub, Array.replicate_succ, Array.replicate_zero, List.push_toArray, List.append_toArray, List.nil_append, List.cons_append]
  have R0 := Lib.hid (rangeAll HZ.out.r0)
  gi_wp2_with (first
    | (refine inV rfl (by intro c h; cases h) rfl p.val (exec_load_any _ (.tmp 3) rfl w.heap.size 0 p.row _ rfl R0.out Try.underlying25 rfl (pf_infoC HP.out)) ?_)
    | (refine ⟨trivial, ?_⟩; gi_at_call 53; refine (callsIn_wide.2 (HT.out _ HTM.out)).mono ?_; rintro e w1 ⟨rfl, b1⟩; refine Hid.out ?_))
  refine Lib.hid ?_
  have z1 := HZ.out.up b1
  have t1 := HTM.out.up b1
  have hsz1 : w.heap.size + 1 + 1 < w1.heap.size := z1.r2.lt
  have R1 := Lib.hid (rangeAll z1.r0)
  clear HZ HTM b1 R0
  gi_wp2_with (first
    | (refine inV rfl (by intro c h; cases h) rfl p.val (exec_load_any _ (.tmp 3) rfl w.heap.size 0 p.row _ rfl R1.out Try.underlying25 rfl (pf_infoC HP.out)) ?_)
    | (refine ⟨trivial, ?_⟩; gi_at_call 58; refine (above_in _ _ _ _).mono ?_; rintro e w' ⟨rfl, rfl⟩; refine Hid.out ?_))
  refine Lib.hid ?_
  have z2 := z1.up (((Below.refl _ _).alloc (Nat.le_refl _) (.cells #[.pointer (some ⟨g, 0, none⟩)] 66)).alloc (by simp) (.cells p.row.toArray 25))
  have t2 := t1.up (((Below.refl _ _).alloc (Nat.le_refl _) (.cells #[.pointer (some ⟨g, 0, none⟩)] 66)).alloc (by simp) (.cells p.row.toArray 25))
  have hab := twoB_new w1 66 25 [.pointer (some ⟨g, 0, none⟩)] p.row
  have hsz2 : ((w1.alloc (.cells #[.pointer (some ⟨g, 0, none⟩)] 66)).alloc (.cells p.row.toArray 25)).heap.size = w1.heap.size + 2 := by simp
  clear z1 t1 R1
  generalize (w1.alloc (.cells #[.pointer (some ⟨g, 0, none⟩)] 66)).alloc (.cells p.row.toArray 25) = W0 at *
  gi_wp2
  refine wpIn_rangeFunc_ownH (n := 5) rfl (by omega) (gf := 70) (lb := #[.pointer (some ⟨w1.heap.size, 0, none⟩), .pointer (some ⟨w1.heap.size + 1, 0, none⟩)]) rfl trivial (enters_of Try.func70 (by kernel_rfl) rfl)
    (above_stops 4 (by omega) w1.heap.size (w1.heap.size + 1) p HP.out W0 X g T (fun k => k = w.heap.size + 1 ∨ k = w.heap.size + 1 + 1) f items hI t2 hab.1 hab.2.1
      (fun k hk => ⟨by omega, fun hx => by have := HL.out k hx; omega, by omega, by omega⟩))
    (fun h k => h.trans k) (fun W l o o' _ hl hc _ => KpO.put _ W l o o' hl hc) (Below.refl _ _) (fun _ => rfl)
    (fun pre W => (∀ y ∈ itemsT pre, eqP y.1 p = false) ∧ GetI w p 0 false W) (getIx w p)
    (fun s X Y row h1 h2 h3 => ⟨h1.1, GetI.from (by omega) h1.2 h2 h3⟩)
    (fun c s X Y row h1 h2 h3 => by obtain ⟨e, pre0, x, e1, e2, e3, e4⟩ := h1; exact ⟨e, pre0, x, e1, e2, e3, GetI.from (by omega) e4 h2 h3⟩)
    ⟨fun _ h => by simp [itemsT] at h, z2⟩
    (fun x a' W => ∃ B6, w.heap.size + 1 + 1 < B6 ∧ Bx W B6 44 (itR x.1.1 x.1.2) ∧ a' = { tmps := #[.pointer (some ⟨g, 0, none⟩), .agg p.row.toArray, undef, .pointer (some ⟨w.heap.size, 0, none⟩), .pointer (some ⟨w.heap.size + 1, 0, none⟩), .pointer (some ⟨w.heap.size + 1 + 1, 0, none⟩), .pointer (some ⟨B6, 0, none⟩), .pointer (some ⟨g, 0, none⟩), p.val, .bool true, .bool false, .pointer (some ⟨g, 0, none⟩), p.val,
      .func (.func 70) #[] #[.pointer (some ⟨w1.heap.size, 0, none⟩), .pointer (some ⟨w1.heap.size + 1, 0, none⟩)], itV x.1.1 x.1.2, undef, undef, undef, undef, undef, undef], defers := [] })
    (fun x a' s X Y row h1 h2 h3 => by obtain ⟨B6, e1, e2, e3⟩ := h1; exact ⟨B6, e1, bx_from e2 h2 h3, e3⟩)
    ?assign ?body ?done ?stop
  case assign =>
    rintro l pre x W K ⟨hno, hi⟩ hK
    have hbb : Below W.heap.size W (W.alloc (.cells (itR x.1.1 x.1.2).toArray 44)) := (Below.refl _ _).alloc (Nat.le_refl _) _
    gi_wp2_with (refine inS rfl (by intro c h; cases h) rfl (exec_store_fresh _ (.tmp 6) (.tmp 14) rfl (itR x.1.1 x.1.2) _ W.heap.size rfl rfl rfl (it_infoC x.2 _) (by rw [it_len x.2]; rfl) (it_one _ _)) ?_; refine Hid.out ?_)
    refine Lib.hid ?_
    gi_wp2
    exact hK _ _ ((KeepsOthers.alloc _ _).from _) (KpO.below hbb) ⟨hno, hi.up hbb⟩ ⟨W.heap.size, hi.r2.lt, Bx.new W _ _, rfl⟩
  case body =>
    rintro l pre x a' W hl _ ⟨hno, hi⟩ ⟨B6, hB6, hx6, rfl⟩ hlt
    have RX := Lib.hid (hx6.range 0 x.1.1.row it_pre)
    have RP := Lib.hid (rangeAll hi.r0)
    have HI := Lib.hid hi
    have HX := Lib.hid hx6
    have cv : W.cell? ⟨B6, 18, none⟩ = some (.int .i64 x.1.2) := by rw [hx6.cell]; exact it_v x.2
    have c1 : W.cell? ⟨w.heap.size + 1, 0, none⟩ = some (.int .i64 0) := by rw [hi.r1.cell]; rfl
    have c2 : W.cell? ⟨w.heap.size + 1 + 1, 0, none⟩ = some (.bool false) := by rw [hi.r2.cell]; rfl
    have y1 := hi.r1.frozen 0
    have y2 := hi.r2.frozen 0
    have hL1 := hi.r1.lt
    have hL2 := hi.r2.lt
    clear hi hx6
    cases hq : eqP x.1.1 p with
    | true =>
      gi_wp2_with (first
        | (refine inV rfl (by intro c h; cases h) rfl x.1.1.val (exec_load_any _ (.tmp 15) rfl B6 0 x.1.1.row _ rfl RX.out Try.underlying25 rfl (pf_infoC x.2)) ?_)
        | (refine inV rfl (by intro c h; cases h) rfl p.val (exec_load_any _ (.tmp 3) rfl w.heap.size 0 p.row _ rfl RP.out Try.underlying25 rfl (pf_infoC HP.out)) ?_)
        | (refine inV rfl (by intro c h; cases h) rfl (.bool true) (hq ▸ exec_eql_pfx 16 17 _ rfl x.1.1 p x.2 HP.out rfl rfl) ?_; refine Hid.out ?_))
      refine Lib.hid ?_
      gi_wp2
      have g1 := (HI.out.r1.set 0 (.int .i64 x.1.2)).setOther (k := w.heap.size + 1 + 1) (by omega) 0 (.bool true)
      have g2 := (HI.out.r2.setOther (k := w.heap.size + 1) (by omega) 0 (.int .i64 x.1.2)).set 0 (.bool true)
      have g0 := (HI.out.r0.setOther (k := w.heap.size + 1) (by omega) 0 (.int .i64 x.1.2)).setOther (k := w.heap.size + 1 + 1) (by omega) 0 (.bool true)
      refine ⟨((KeepsOthers.setCell _ _ _).trans (KeepsOthers.setCell _ _ _)).from _, rfl, pre, x, rfl, hno, hq, g0, g1, g2, (HI.out.below.setCell (p := ⟨w.heap.size + 1, 0, none⟩) (by simp) _).setCell (p := ⟨w.heap.size + 1 + 1, 0, none⟩) (by simp; omega) _⟩
    | false =>
      gi_wp2_with (first
        | (refine inV rfl (by intro c h; cases h) rfl x.1.1.val (exec_load_any _ (.tmp 15) rfl B6 0 x.1.1.row _ rfl RX.out Try.underlying25 rfl (pf_infoC x.2)) ?_)
        | (refine inV rfl (by intro c h; cases h) rfl p.val (exec_load_any _ (.tmp 3) rfl w.heap.size 0 p.row _ rfl RP.out Try.underlying25 rfl (pf_infoC HP.out)) ?_)
        | (refine inV rfl (by intro c h; cases h) rfl (.bool false) (hq ▸ exec_eql_pfx 16 17 _ rfl x.1.1 p x.2 HP.out rfl rfl) ?_; refine Hid.out ?_))
      refine Lib.hid ?_
      gi_wp2
      refine ⟨KeepsFrom.refl _ _, KpO.refl _ _, ?_, HI.out⟩
      intro y hy
      unfold itemsT at hy
      rw [List.map_append] at hy
      rcases List.mem_append.1 hy with hy | hy
      · exact hno y hy
      · simp at hy; subst hy; exact hq
  case done =>
    rintro D xs W hD hS ⟨hno, hi⟩ hK
    have hg : getI p items = none := by
      have := getI_no p (itemsT xs) hno []
      rw [List.append_nil, hS] at this
      exact this
    have c1 : W.cell? ⟨w.heap.size + 1, 0, none⟩ = some (.int .i64 0) := by rw [hi.r1.cell]; rfl
    have c2 : W.cell? ⟨w.heap.size + 1 + 1, 0, none⟩ = some (.bool false) := by rw [hi.r2.cell]; rfl
    have y1 := hi.r1.frozen 0
    have y2 := hi.r2.frozen 0
    have HI := Lib.hid hi
    clear hi
    gi_wp2
    have g1 := (HI.out.r1.set 0 (.int .i64 0)).setOther (k := w.heap.size + 1 + 1) (by omega) 0 (.bool false)
    have g2 := (HI.out.r2.setOther (k := w.heap.size + 1) (by omega) 0 (.int .i64 0)).set 0 (.bool false)
    have gb := (HI.out.below.setCell (p := ⟨w.heap.size + 1, 0, none⟩) (by simp) (.int .i64 0)).setCell (p := ⟨w.heap.size + 1 + 1, 0, none⟩) (by simp; omega) (.bool false)
    have hK2 := ((KeepsOthers.setCell W ⟨w.heap.size + 1, 0, none⟩ (.int .i64 0)).trans (KeepsOthers.setCell _ ⟨w.heap.size + 1 + 1, 0, none⟩ (.bool false))).same D _ hK rfl
    refine ⟨by simp, .inl ⟨_, _, rfl, run_takeDeferred hK2, ?_⟩⟩
    have d1 := cell_kept ((g1.cell 0).trans rfl) (grownBy_putObj' _ D (.deferred none)) (fun r e => by cases e; exact ⟨_, hK2, rfl⟩)
    have d2 := cell_kept ((g2.cell 0).trans rfl) (grownBy_putObj' _ D (.deferred none)) (fun r e => by cases e; exact ⟨_, hK2, rfl⟩)
    refine ⟨.tuple #[.int .i64 0, .bool false], by simp [results, Try.results38, go_sem, d1, d2], by rw [hg]; rfl, gb.trans (belowK_b (w := w) (Nat.le_refl _) _ D _ _ (by omega) hK2 rfl rfl)⟩
  case stop =>
    rintro D c pre W hD hp2 ⟨rfl, pre0, x, rfl, hno, hx, hi⟩ hK
    have hg : getI p items = some x.1.2 := by
      obtain ⟨tl, htl⟩ := hp2
      rw [← htl]
      unfold itemsT at hno ⊢
      rw [List.map_append, List.append_assoc, getI_no p _ hno, List.map_singleton, List.singleton_append, getI, if_pos hx]
    have HI := Lib.hid hi
    clear hi
    gi_wp2
    refine ⟨by simp, .inl ⟨_, _, rfl, run_takeDeferred hK, ?_⟩⟩
    have d1 := cell_kept ((HI.out.r1.cell 0).trans rfl) (grownBy_putObj' _ D (.deferred none)) (fun r e => by cases e; exact ⟨_, hK, rfl⟩)
    have d2 := cell_kept ((HI.out.r2.cell 0).trans rfl) (grownBy_putObj' _ D (.deferred none)) (fun r e => by cases e; exact ⟨_, hK, rfl⟩)
    refine ⟨.tuple #[.int .i64 x.1.2, .bool true], by simp [results, Try.results38, go_sem, d1, d2], by rw [hg]; rfl, HI.out.below.trans (belowK_b (w := w) (Nat.le_refl _) _ D _ _ (by omega) hK rfl rfl)⟩
end Go.Proofs.Ytgimcapcnidjjaa

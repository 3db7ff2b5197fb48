/- Those that cover a prefix, told one by one (above of package lpm). -/
import Derived.RangeFuncNested
import Derived.RangeFuncBound
import Derived.RangeFuncCalls
import Derived.RangeFuncLeaves
import Derived.Shelf.Abstract
import Derived.Shelf.RegionOpen
import Derived.WalkKit
import Derived.OwnWalkIn
import Derived.TacticsInMore
import Derived.LoopNIn
import Derived.LoopIn
import Derived.Test.YtecefdocemkliaaT9g
namespace Go.Proofs.Ytecefdocemkliaa
open Go Go.RowKit Go.Shelf
attribute [local go_sem] Oper.semAt_some

/-! Laws inside a fence: an operation that yields, one that stores. -/
section
variable {F : Fence} {n : Nat} {ops : Array Oper} {rest : List Oper} {o : Oper} {a : Act} {w w' : World} {Q : Exit → Act → World → Prop}
theorem inV (hw : Region.wanted o (yielded ops a.tmps) = true) (hnd : ∀ c, o.op ≠ .defer c) (hab : o.about Try.prog w a.eval = none) (v : Value) (hrun : (execOp a.eval o).run Try.prog w = .ok (.value v) w')
    (h : wpListIn F n Try.prog ops Q rest (a.put o.dst v) w') : wpListIn F n Try.prog ops Q (o :: rest) a w :=
  wpListIn_step fun K hK => by
    rw [if_pos hw]
    unfold Oper.wpIn
    refine ⟨fun f hf => (by rw [hab] at hf; cases hf), ?_⟩
    rw [Oper.semAt_plain F _ _ hnd, hrun]
    exact hK _ _ h
theorem inS (hw : Region.wanted o (yielded ops a.tmps) = true) (hnd : ∀ c, o.op ≠ .defer c) (hab : o.about Try.prog w a.eval = none) (hrun : (execOp a.eval o).run Try.prog w = .ok .skip w')
    (h : wpListIn F n Try.prog ops Q rest (a.put o.dst undef) w') : wpListIn F n Try.prog ops Q (o :: rest) a w :=
  wpListIn_step fun K hK => by
    rw [if_pos hw]
    unfold Oper.wpIn
    refine ⟨fun f hf => (by rw [hab] at hf; cases hf), ?_⟩
    rw [Oper.semAt_plain F _ _ hnd, hrun]
    exact hK _ _ h
end
theorem exec_store_fresh {ρ : Operand → Value} {o : Oper} {w : World} (ty : TypeId) (x y : Operand) (ho : o.op = .store ty x y) (l : List Value) (old : Array Value) (b : Nat) (hx : ρ x = .pointer (some ⟨b, 0, none⟩)) (hbw : w.heap.size = b) (hy : ρ y = .agg l.toArray)
    (hi : (Try.prog.info? ty).map (·.size) = some l.length) (hold : old.size = l.length) (h1 : ∀ v ∈ l, v.oneCell' = true) :
    (execOp ρ o).run Try.prog (w.alloc (.cells old ty)) = .ok .skip (w.alloc (.cells l.toArray ty)) := by
  subst hbw
  unfold execOp
  have := run_storeVar_row (P := Try.prog) (w.alloc (.cells old ty)) w.heap.size ty ty old l.toArray (heap_alloc_new w _) (by simpa using hi) (by simpa using hold) (all_oneCell_toArray h1)
  simp only [ho, hx, hy, Instr.storeAt, Instr.sureAddr, Sem.run_bind, Sem.run_pure, Result.andThen_ok, this]
  rw [World.setRow_alloc_new]
/-- An item, its address sixteen bytes. -/
abbrev It := { x : Pfx × Int // x.1.addr.length = 16 }
def itemsT (l : List It) : List (Pfx × Int) := l.map (·.1)
def ownN (d : Nd) : List (Pfx × Int) := if d.held then [(d.p, d.v)] else []
def aboveN : Nat → List Nd → Nat → Pfx → Option (List (Pfx × Int))
  | 0, _, _, _ => none
  | f + 1, nds, n, q =>
    if n = 0 then some []
    else match nds[n]? with
      | none => none
      | some d =>
        if covP d.p q = true then
          match aboveN f nds (d.kid (sideB q.addr d.p.len)) q with
          | none => none
          | some l => some (ownN d ++ l)
        else some []
def cntN : Nat → List Nd → Nat → Pfx → Nat
  | 0, _, _, _ => 0
  | f + 1, nds, n, q =>
    if n = 0 then 0
    else match nds[n]? with
      | none => 0
      | some d => if covP d.p q = true then 1 + cntN f nds (d.kid (sideB q.addr d.p.len)) q else 0
theorem cnt_eq (nds : List Nd) (q : Pfx) : ∀ (f F n : Nat) (l : List (Pfx × Int)), aboveN f nds n q = some l → f ≤ F → cntN F nds n q = cntN f nds n q
  | 0, _, _, _, h, _ => by cases h
  | f + 1, 0, _, _, _, hF => by omega
  | f + 1, F + 1, n, l, h, hF => by
    unfold aboveN at h
    unfold cntN
    split
    · rfl
    · rename_i hn
      rw [if_neg hn] at h
      split
      · rfl
      · rename_i d hd
        rw [hd] at h
        simp only at h
        split
        · rename_i hc
          rw [if_pos hc] at h
          split at h
          · cases h
          · rename_i l1 h1
            rw [cnt_eq nds q f F _ l1 h1 (by omega)]
        · rfl
/-- What a round keeps: all cells but those of O. -/
def KpO (O : Nat → Prop) (W W' : World) : Prop := W.heap.size ≤ W'.heap.size ∧ ∀ k c t z, ¬ O k → W.heap[k]? = some (.cells c t z) → W'.heap[k]? = some (.cells c t z)
theorem KpO.refl (O : Nat → Prop) (W : World) : KpO O W W := ⟨Nat.le_refl _, fun _ _ _ _ _ h => h⟩
theorem KpO.trans {O : Nat → Prop} {A B C : World} (h : KpO O A B) (k : KpO O B C) : KpO O A C := ⟨Nat.le_trans h.1 k.1, fun i c t z ho hi => k.2 i c t z ho (h.2 i c t z ho hi)⟩
theorem KpO.put (O : Nat → Prop) (W : World) (l : Nat) (o o' : Obj) (h : W.heap[l]? = some o) (hc : o.isCells = false) : KpO O W (W.putObj l o') := by
  refine ⟨by simp, fun k c t z _ hk => ?_⟩
  have hne : k ≠ l := fun e => by rw [e, h] at hk; cases hk; cases hc
  exact (World.putObj_heap_other hne).trans hk
theorem KpO.below {O : Nat → Prop} {A B : World} (h : Below A.heap.size A B) : KpO O A B := ⟨h.size, fun k _ _ _ _ hk => (h.block k (Array.getElem?_eq_some_iff.1 hk).1).trans hk⟩
theorem KpO.set {O : Nat → Prop} (W : World) (b i : Nat) (v : Value) (h : O b) : KpO O W (W.setCell ⟨b, i, none⟩ v) := ⟨by simp, fun k _ _ _ ho hk => (Below.heap_setCell W _ v k (fun e => ho (by rw [show k = b from e]; exact h))).trans hk⟩
theorem Bx.kp {O : Nat → Prop} {W W' : World} {b : Nat} {t : TypeId} {l : List Value} (h : Bx W b t l) (hk : KpO O W W') (ho : ¬ O b) : Bx W' b t l := hk.2 b _ _ _ ho h
theorem own_kp {O : Nat → Prop} {w w' : World} {base : Nat} {e : TypeId} {size : Nat} {v : Value} {n : Nat} {xs : List Value} (h : w.ownsRow base e size v n xs) (hk : KpO O w w') (ho : ∀ k, v.ownBlock = some k → ¬ O k) : w'.ownsRow base e size v n xs := by
  refine ⟨h.1, ?_⟩
  rcases h.2 with h0 | ⟨g, cap, cur, rfl, h2, hg, h3⟩
  · exact .inl h0
  · exact .inr ⟨g, cap, cur, rfl, h2, hk.2 g _ _ _ (ho g rfl) hg, h3⟩
theorem TabG.kp {O : Nat → Prop} {W W' : World} {X : Nat → Prop} {g gn cap : Nat} {T : Tb} {vf : Value} (h : TabG W X g T gn cap vf) (hk : KpO O W W') (ho : ∀ k, X k → ¬ O k) : TabG W' X g T gn cap vf :=
  ⟨h.box.kp hk (ho g h.inG), own_kp h.nds hk (fun k e => by cases e; exact ho gn h.inN), own_kp h.free hk (fun k e => ho k (h.inF k e)), h.addr, h.inG, h.inN, h.inF, fun k hx => Nat.lt_of_lt_of_le (h.low k hx) hk.1⟩
def intOf9 : Value → Nat
  | .int _ i => i.toNat
  | _ => 0
theorem grown_of_below9 {w w' : World} (h : Below w.heap.size w w') : w.grownBy w' none := ⟨h.os, h.tape, h.output, h.size, fun k hk _ => h.block k hk⟩
def HeldA (Bt Bp g gn n : Nat) (v : Value) (l m : List Value) (W : World) : Prop :=
  W.cell? ⟨Bt, 0, none⟩ = some (.pointer (some ⟨g, 0, none⟩)) ∧ W.cell? ⟨g, 4, none⟩ = some v ∧ W.rangeAt gn (n * 22) l ∧ Bx W Bp 32 m
def HeldN (_W : World) : Prop := True
set_option maxRecDepth 100000 in
set_option maxHeartbeats 4000000 in
theorem above1_in (n : Nat) (_hn : 1 ≤ n) (l Bt Bp : Nat) (q : Pfx) (hq : q.addr.length = 16) (w0 : World) (X : Nat → Prop) (g : Nat) (T : Tb) (O : Nat → Prop) (f : Nat) (items : List (Pfx × Int)) (hI : aboveN f T.nds T.root q = some items) (J Jx : List It → World → Prop)
    (hY : ∀ pre x W, J pre W → pre.length < items.length → YieldAt Fence.wide (n - 1) Try.prog l #[itV x.1.1 x.1.2] W fun e W' =>
      (e = .returned (.bool true) ∧ J (pre ++ [x]) W' ∧ KpO O W W') ∨ (e = .returned (.bool false) ∧ Jx (pre ++ [x]) W'))
    (W : World) (hT : TabM W X g T) (hJ : AbidesFrom W.heap.size J) (hW : w0.heap.size ≤ W.heap.size) (hBt : Bx W Bt 24 [.pointer (some ⟨g, 0, none⟩)]) (hBp : Bx W Bp 32 q.row) (hO : ∀ k, O k → k < w0.heap.size ∧ ¬ X k ∧ k ≠ Bt ∧ k ≠ Bp) (h0 : J [] W) :
    CallsIn Fence.wide n Try.prog 39 #[.func (.yield l) #[] #[], .pointer (some ⟨Bt, 0, none⟩), .pointer (some ⟨Bp, 0, none⟩)] W fun e W' => (∃ v, e = .returned v) ∧
      ((∃ ys, itemsT ys = items ∧ J ys W') ∨ (∃ pre, itemsT pre <+: items ∧ Jx pre W')) := by
  obtain ⟨gn, cap, vf, hG⟩ := hT
  have c0 : W.cell? ⟨Bt, 0, none⟩ = some (.pointer (some ⟨g, 0, none⟩)) := by rw [hBt.cell]; rfl
  have c3 := hG.c3
  have HG := Lib.hid hG
  have HQ := Lib.hid hq
  have HB := Lib.hid (⟨hBt, hBp⟩ : _ ∧ _)
  have hcaps := hG.caps
  unfold maxLen at hcaps
  clear hBt hBp hG hq
  refine callsIn_of_wp Try.func39 rfl trivial ?_ rfl
  simp only [Try.ntmps39, List.size_toArray, List.length_cons, List.length_nil, Nat.reduceAdd, Nat.reduceSub, Array.replicate_succ, Array.replicate_zero, List.push_toArray, List.append_toArray, List.nil_append, List.cons_append]
  gi_wp2
  gi_loopw [4] (fun r wr => ∃ (m f' : Nat) (pre : List It) (rest : List (Pfx × Int)), r = .int .i64 (m : Int) ∧ f' ≤ f ∧ aboveN f' T.nds m q = some rest ∧ items = itemsT pre ++ rest ∧ J pre wr ∧ TabG wr X g T gn cap vf ∧ Bx wr Bt 24 [.pointer (some ⟨g, 0, none⟩)] ∧ Bx wr Bp 32 q.row ∧ w0.heap.size ≤ wr.heap.size) (fun r _ => cntN f T.nds (intOf9 r) q)
  case atStart => exact ⟨T.root, f, [], items, rfl, Nat.le_refl _, hI, rfl, h0, HG.out, HB.out.1, HB.out.2, hW⟩
  case round =>
    obtain ⟨m, f', pre, rest, rfl, hf', hA, hit, hJs, hGr, hBtr, hBpr, hwr⟩ := hrel
    clear c0 c3
    cases f' with
    | zero => cases hA
    | succ f' =>
    unfold aboveN at hA
    by_cases hm : m = 0
    · rw [if_pos hm] at hA
      subst hm
      obtain rfl : rest = [] := by cases hA; rfl
      gi_wp2
      refine wpIn_wide.2 ?_
      refine wp_region_noPanic ?_
      refine wp_region_held_drew (S := HeldN) (by kernel_rfl) trivial (fun hHeld => ?_)
      refine held_take (v := ?v153) 0 rfl (by kernel_rfl) (by kernel_rfl) (by kernel_rfl) (fun _ _ _ h => h) (by rfl) ?y153 (by assumption) ?_
      case y153 => (intro w hSw; unfold HeldN at hSw; go_simp; (try with_reducible rfl); (try omega))
      simp only [List.setIfInBounds_toArray, List.set_cons_zero, List.set_cons_succ]
      refine held_take (v := ?v156) 1 rfl (by kernel_rfl) (by kernel_rfl) (by kernel_rfl) (fun _ _ _ h => h) (by rfl) ?y156 (by assumption) ?_
      case y156 => (intro w hSw; unfold HeldN at hSw; go_simp; (try with_reducible rfl); (try omega))
      simp only [List.setIfInBounds_toArray, List.set_cons_zero, List.set_cons_succ]
      refine held_take (v := ?v159) 2 rfl (by kernel_rfl) (by kernel_rfl) (by kernel_rfl) (fun _ _ _ h => h) (by rfl) ?y159 (by assumption) ?_
      case y159 => (intro w hSw; unfold HeldN at hSw; go_simp; (try with_reducible rfl); (try omega))
      simp only [List.setIfInBounds_toArray, List.set_cons_zero, List.set_cons_succ]
      refine held_skip 3 rfl (by kernel_rfl) (by kernel_rfl) (by kernel_rfl) (fun _ _ _ h => h) (by rfl) (by assumption) ?_
      simp only [List.setIfInBounds_toArray, List.set_cons_zero, List.set_cons_succ]
      refine held_skip 4 rfl (by kernel_rfl) (by kernel_rfl) (by kernel_rfl) (fun _ _ _ h => h) (by rfl) (by assumption) ?_
      simp only [List.setIfInBounds_toArray, List.set_cons_zero, List.set_cons_succ]
      refine held_skip 5 rfl (by kernel_rfl) (by kernel_rfl) (by kernel_rfl) (fun _ _ _ h => h) (by rfl) (by assumption) ?_
      simp only [List.setIfInBounds_toArray, List.set_cons_zero, List.set_cons_succ]
      refine held_skip 6 rfl (by kernel_rfl) (by kernel_rfl) (by kernel_rfl) (fun _ _ _ h => h) (by rfl) (by assumption) ?_
      simp only [List.setIfInBounds_toArray, List.set_cons_zero, List.set_cons_succ]
      refine held_skip 7 rfl (by kernel_rfl) (by kernel_rfl) (by kernel_rfl) (fun _ _ _ h => h) (by rfl) (by assumption) ?_
      simp only [List.setIfInBounds_toArray, List.set_cons_zero, List.set_cons_succ]
      refine held_skip 8 rfl (by kernel_rfl) (by kernel_rfl) (by kernel_rfl) (fun _ _ _ h => h) (by rfl) (by assumption) ?_
      simp only [List.setIfInBounds_toArray, List.set_cons_zero, List.set_cons_succ]
      refine held_skip 9 rfl (by kernel_rfl) (by kernel_rfl) (by kernel_rfl) (fun _ _ _ h => h) (by rfl) (by assumption) ?_
      simp only [List.setIfInBounds_toArray, List.set_cons_zero, List.set_cons_succ]
      refine held_skip 10 rfl (by kernel_rfl) (by kernel_rfl) (by kernel_rfl) (fun _ _ _ h => h) (by rfl) (by assumption) ?_
      simp only [List.setIfInBounds_toArray, List.set_cons_zero, List.set_cons_succ]
      refine held_skip 11 rfl (by kernel_rfl) (by kernel_rfl) (by kernel_rfl) (fun _ _ _ h => h) (by rfl) (by assumption) ?_
      simp only [List.setIfInBounds_toArray, List.set_cons_zero, List.set_cons_succ]
      refine held_skip 12 rfl (by kernel_rfl) (by kernel_rfl) (by kernel_rfl) (fun _ _ _ h => h) (by rfl) (by assumption) ?_
      simp only [List.setIfInBounds_toArray, List.set_cons_zero, List.set_cons_succ]
      refine held_skip 13 rfl (by kernel_rfl) (by kernel_rfl) (by kernel_rfl) (fun _ _ _ h => h) (by rfl) (by assumption) ?_
      simp only [List.setIfInBounds_toArray, List.set_cons_zero, List.set_cons_succ]
      refine held_take (v := ?v184) 14 rfl (by kernel_rfl) (by kernel_rfl) (by kernel_rfl) (fun _ _ _ h => h) (by rfl) ?y184 (by assumption) ?_
      case y184 => (intro w hSw; unfold HeldN at hSw; go_simp; (try with_reducible rfl); (try omega))
      simp only [List.setIfInBounds_toArray, List.set_cons_zero, List.set_cons_succ]
      refine wpAnyH_done (by kernel_rfl) ?_ _
      refine NoPanic.normal ?_
      gi_wp2
      go_end0
      exact ⟨⟨_, rfl⟩, .inl ⟨pre, by rw [hit]; simp, hJ _ _ _ none hJs (grown_of_below9 (Below.refl _ _).drew) (fun r e => by cases e)⟩⟩
    · rw [if_neg hm] at hA
      split at hA
      · cases hA
      rename_i d hd
      have hml : m < T.nds.length := (List.getElem?_eq_some_iff.1 hd).1
      have fd := HG.out.addr d (List.mem_of_getElem? hd)
      have HD := Lib.hid fd
      have HC := Lib.hid (fun W => covers_any d.p q W fd HQ.out)
      have hi0 : (m : Int) ≠ 0 := by omega
      have hi1 : ((m : Int) == 0) = false := by simpa using hi0
      have hi2 : ((m : Int) != 0) = true := by simpa using hi0
      have hi3 : (m : Int) < (T.nds.length : Int) := by omega
      have R1 := hGr.range m d hd
      have R2 : wr.rangeAt gn (m * 22) d.p.row := fun j v hv => by
        refine R1 j v ?_
        unfold Nd.row
        rw [List.getElem?_append_left (List.getElem?_eq_some_iff.1 hv).1]
        exact hv
      have hHA : HeldA Bt Bp g gn m (.slice (some ⟨gn, 0, none⟩) T.nds.length cap) d.p.row q.row wr := ⟨by rw [hBtr.cell]; rfl, hGr.c4, R2, hBpr⟩
      have HHA := Lib.hid (fun W1 (hb1 : Below wr.heap.size wr W1) => (⟨(hb1.cell (p := ⟨Bt, 0, none⟩) hBtr.lt).trans hHA.1, (hb1.cell (p := ⟨g, 4, none⟩) hGr.box.lt).trans hHA.2.1, fun j v hv => (hb1.cell (p := ⟨gn, m * 22 + j, none⟩) (hGr.low gn hGr.inN)).trans (R2 j v hv), hBpr.up hb1⟩ : HeldA Bt Bp g gn m (.slice (some ⟨gn, 0, none⟩) T.nds.length cap) d.p.row q.row W1))
      have HGR := Lib.hid hGr
      have HBTR := Lib.hid hBtr
      have HBPR := Lib.hid hBpr
      clear fd R1 R2 hHA hGr hBtr hBpr
      cases hc : covP d.p q with
      | false =>
        rw [if_neg (by rw [hc]; simp)] at hA
        obtain rfl : rest = [] := by cases hA; rfl
        rw [hc] at HC
        gi_wp2
        refine wpIn_wide.2 ?_
        refine wp_region_noPanic ?_
        refine wp_region_held_drew (S := HeldA Bt Bp g gn m (.slice (some ⟨gn, 0, none⟩) T.nds.length cap) d.p.row q.row) (by kernel_rfl) (HHA.out _ (Below.refl _ _).drew) (fun hHeld => ?_)
        refine held_take (v := ?v225) 0 rfl (by kernel_rfl) (by kernel_rfl) (by kernel_rfl) (fun _ _ _ h => h) (by rfl) ?y225 (by assumption) ?_
        case y225 => (intro w hSw; unfold HeldA at hSw; go_simp; (try with_reducible rfl); (try omega))
        simp only [List.setIfInBounds_toArray, List.set_cons_zero, List.set_cons_succ]
        refine held_take (v := ?v228) 1 rfl (by kernel_rfl) (by kernel_rfl) (by kernel_rfl) (fun _ _ _ h => h) (by rfl) ?y228 (by assumption) ?_
        case y228 => (intro w hSw; unfold HeldA at hSw; go_simp; (try with_reducible rfl); (try omega))
        simp only [List.setIfInBounds_toArray, List.set_cons_zero, List.set_cons_succ]
        refine held_take (v := ?v231) 2 rfl (by kernel_rfl) (by kernel_rfl) (by kernel_rfl) (fun _ _ _ h => h) (by rfl) ?y231 (by assumption) ?_
        case y231 => (intro w hSw; unfold HeldA at hSw; go_simp; (try with_reducible rfl); (try omega))
        simp only [List.setIfInBounds_toArray, List.set_cons_zero, List.set_cons_succ]
        refine held_take (v := ?v234) 3 rfl (by kernel_rfl) (by kernel_rfl) (by kernel_rfl) (fun _ _ _ h => h) (by rfl) ?y234 (by assumption) ?_
        case y234 => (intro w hSw; unfold HeldA at hSw; go_simp; (try with_reducible rfl); (try omega))
        simp only [List.setIfInBounds_toArray, List.set_cons_zero, List.set_cons_succ]
        refine held_take (v := ?v237) 4 rfl (by kernel_rfl) (by kernel_rfl) (by kernel_rfl) (fun _ _ _ h => h) (by rfl) ?y237 (by assumption) ?_
        case y237 => (intro w hSw; unfold HeldA at hSw; go_simp; (try with_reducible rfl); (try omega))
        simp only [List.setIfInBounds_toArray, List.set_cons_zero, List.set_cons_succ]
        refine held_take (v := ?v240) 5 rfl (by kernel_rfl) (by kernel_rfl) (by kernel_rfl) (fun _ _ _ h => h) (by rfl) ?y240 (by assumption) ?_
        case y240 => (intro w hSw; unfold HeldA at hSw; go_simp; (try with_reducible rfl); (try omega))
        simp only [List.setIfInBounds_toArray, List.set_cons_zero, List.set_cons_succ]
        refine held_take (v := ?v243) 6 rfl (by kernel_rfl) (by kernel_rfl) (by kernel_rfl) (fun _ _ _ h => h) (by rfl) ?y243 (by assumption) ?_
        case y243 => (intro w hSw; unfold HeldA at hSw; go_simp; (try with_reducible rfl); (try omega))
        simp only [List.setIfInBounds_toArray, List.set_cons_zero, List.set_cons_succ]
        refine held_take (v := ?v246) 7 rfl (by kernel_rfl) (by kernel_rfl) (by kernel_rfl) (fun _ _ _ h => h) (by rfl) ?y246 (by assumption) ?_
        case y246 => (intro w hSw; unfold HeldA at hSw; go_simp; (try with_reducible rfl); (try omega))
        simp only [List.setIfInBounds_toArray, List.set_cons_zero, List.set_cons_succ]
        refine held_take (v := ?v249) 8 rfl (by kernel_rfl) (by kernel_rfl) (by kernel_rfl) (fun _ _ _ h => h) (by rfl) ?y249 (by assumption) ?_
        case y249 => (intro w hSw; unfold HeldA at hSw; go_simp; (try with_reducible rfl); (try omega))
        simp only [List.setIfInBounds_toArray, List.set_cons_zero, List.set_cons_succ]
        refine held_take (v := ?v252) 9 rfl (by kernel_rfl) (by kernel_rfl) (by kernel_rfl) (fun _ _ _ h => h) (by rfl) ?y252 (by assumption) ?_
        case y252 => (intro w hSw; unfold HeldA at hSw; go_simp; (try with_reducible rfl); (try omega))
        simp only [List.setIfInBounds_toArray, List.set_cons_zero, List.set_cons_succ]
        refine held_take (v := ?v255) 10 rfl (by kernel_rfl) (by kernel_rfl) (by kernel_rfl) (fun _ _ _ h => h) (by rfl) ?y255 (by assumption) ?_
        case y255 => (intro w hSw; unfold HeldA at hSw; go_simp; (try with_reducible rfl); (try omega))
        simp only [List.setIfInBounds_toArray, List.set_cons_zero, List.set_cons_succ]
        refine held_take (v := d.p.val) 11 rfl (by kernel_rfl) (by kernel_rfl) (by kernel_rfl) (fun _ _ _ h => h) (by rfl) (fun W hSw => exec_load_any _ (.tmp 20) rfl gn (m * 22) d.p.row _ rfl hSw.2.2.1 Try.underlying32 rfl (pf_infoC HD.out)) (by assumption) ?_
        simp only [List.setIfInBounds_toArray, List.set_cons_zero, List.set_cons_succ]
        refine held_take (v := q.val) 12 rfl (by kernel_rfl) (by kernel_rfl) (by kernel_rfl) (fun _ _ _ h => h) (by rfl) (fun W hSw => exec_load_any _ (.tmp 2) rfl Bp 0 q.row _ rfl (rangeAll hSw.2.2.2) Try.underlying32 rfl (pf_infoC HQ.out)) (by assumption) ?_
        simp only [List.setIfInBounds_toArray, List.set_cons_zero, List.set_cons_succ]
        refine held_one 13 rfl (by kernel_rfl) (by rfl) (fun K hK => ?_)
        go_simp
        refine (HC.out _).mono ?_
        rintro e w1 ⟨rfl, b1⟩
        have hb1 : Below wr.heap.size wr w1 := (Below.refl wr.heap.size wr).drew.trans b1
        have hH1 := HHA.out _ hb1
        refine hK.out _ _ hH1 (fun _ => ?_)
        clear hK K
        refine held_take (v := ?v270) 14 rfl (by kernel_rfl) (by kernel_rfl) (by kernel_rfl) (fun _ _ _ h => h) (by rfl) ?y270 (by assumption) ?_
        case y270 => (intro w hSw; unfold HeldA at hSw; go_simp; (try with_reducible rfl); (try omega))
        simp only [List.setIfInBounds_toArray, List.set_cons_zero, List.set_cons_succ]
        refine wpAnyH_done (by kernel_rfl) ?_ _
        refine NoPanic.normal ?_
        gi_wp2
        go_end0
        exact ⟨⟨_, rfl⟩, .inl ⟨pre, by rw [hit]; simp, hJ _ _ _ none hJs (grown_of_below9 hb1) (fun r e => by cases e)⟩⟩
      | true =>
        rw [if_pos hc] at hA
        rw [hc] at HC
        split at hA
        · cases hA
        rename_i rest1 hA1
        obtain rfl : rest = ownN d ++ rest1 := by cases hA; rfl
        gi_wp2
        refine wpIn_wide.2 ?_
        refine wp_region_noPanic ?_
        refine wp_region_held_drew (S := HeldA Bt Bp g gn m (.slice (some ⟨gn, 0, none⟩) T.nds.length cap) d.p.row q.row) (by kernel_rfl) (HHA.out _ (Below.refl _ _).drew) (fun hHeld => ?_)
        refine held_take (v := ?v289) 0 rfl (by kernel_rfl) (by kernel_rfl) (by kernel_rfl) (fun _ _ _ h => h) (by rfl) ?y289 (by assumption) ?_
        case y289 => (intro w hSw; unfold HeldA at hSw; go_simp; (try with_reducible rfl); (try omega))
        simp only [List.setIfInBounds_toArray, List.set_cons_zero, List.set_cons_succ]
        refine held_take (v := ?v292) 1 rfl (by kernel_rfl) (by kernel_rfl) (by kernel_rfl) (fun _ _ _ h => h) (by rfl) ?y292 (by assumption) ?_
        case y292 => (intro w hSw; unfold HeldA at hSw; go_simp; (try with_reducible rfl); (try omega))
        simp only [List.setIfInBounds_toArray, List.set_cons_zero, List.set_cons_succ]
        refine held_take (v := ?v295) 2 rfl (by kernel_rfl) (by kernel_rfl) (by kernel_rfl) (fun _ _ _ h => h) (by rfl) ?y295 (by assumption) ?_
        case y295 => (intro w hSw; unfold HeldA at hSw; go_simp; (try with_reducible rfl); (try omega))
        simp only [List.setIfInBounds_toArray, List.set_cons_zero, List.set_cons_succ]
        refine held_take (v := ?v298) 3 rfl (by kernel_rfl) (by kernel_rfl) (by kernel_rfl) (fun _ _ _ h => h) (by rfl) ?y298 (by assumption) ?_
        case y298 => (intro w hSw; unfold HeldA at hSw; go_simp; (try with_reducible rfl); (try omega))
        simp only [List.setIfInBounds_toArray, List.set_cons_zero, List.set_cons_succ]
        refine held_take (v := ?v301) 4 rfl (by kernel_rfl) (by kernel_rfl) (by kernel_rfl) (fun _ _ _ h => h) (by rfl) ?y301 (by assumption) ?_
        case y301 => (intro w hSw; unfold HeldA at hSw; go_simp; (try with_reducible rfl); (try omega))
        simp only [List.setIfInBounds_toArray, List.set_cons_zero, List.set_cons_succ]
        refine held_take (v := ?v304) 5 rfl (by kernel_rfl) (by kernel_rfl) (by kernel_rfl) (fun _ _ _ h => h) (by rfl) ?y304 (by assumption) ?_
        case y304 => (intro w hSw; unfold HeldA at hSw; go_simp; (try with_reducible rfl); (try omega))
        simp only [List.setIfInBounds_toArray, List.set_cons_zero, List.set_cons_succ]
        refine held_take (v := ?v307) 6 rfl (by kernel_rfl) (by kernel_rfl) (by kernel_rfl) (fun _ _ _ h => h) (by rfl) ?y307 (by assumption) ?_
        case y307 => (intro w hSw; unfold HeldA at hSw; go_simp; (try with_reducible rfl); (try omega))
        simp only [List.setIfInBounds_toArray, List.set_cons_zero, List.set_cons_succ]
        refine held_take (v := ?v310) 7 rfl (by kernel_rfl) (by kernel_rfl) (by kernel_rfl) (fun _ _ _ h => h) (by rfl) ?y310 (by assumption) ?_
        case y310 => (intro w hSw; unfold HeldA at hSw; go_simp; (try with_reducible rfl); (try omega))
        simp only [List.setIfInBounds_toArray, List.set_cons_zero, List.set_cons_succ]
        refine held_take (v := ?v313) 8 rfl (by kernel_rfl) (by kernel_rfl) (by kernel_rfl) (fun _ _ _ h => h) (by rfl) ?y313 (by assumption) ?_
        case y313 => (intro w hSw; unfold HeldA at hSw; go_simp; (try with_reducible rfl); (try omega))
        simp only [List.setIfInBounds_toArray, List.set_cons_zero, List.set_cons_succ]
        refine held_take (v := ?v316) 9 rfl (by kernel_rfl) (by kernel_rfl) (by kernel_rfl) (fun _ _ _ h => h) (by rfl) ?y316 (by assumption) ?_
        case y316 => (intro w hSw; unfold HeldA at hSw; go_simp; (try with_reducible rfl); (try omega))
        simp only [List.setIfInBounds_toArray, List.set_cons_zero, List.set_cons_succ]
        refine held_take (v := ?v319) 10 rfl (by kernel_rfl) (by kernel_rfl) (by kernel_rfl) (fun _ _ _ h => h) (by rfl) ?y319 (by assumption) ?_
        case y319 => (intro w hSw; unfold HeldA at hSw; go_simp; (try with_reducible rfl); (try omega))
        simp only [List.setIfInBounds_toArray, List.set_cons_zero, List.set_cons_succ]
        refine held_take (v := d.p.val) 11 rfl (by kernel_rfl) (by kernel_rfl) (by kernel_rfl) (fun _ _ _ h => h) (by rfl) (fun W hSw => exec_load_any _ (.tmp 20) rfl gn (m * 22) d.p.row _ rfl hSw.2.2.1 Try.underlying32 rfl (pf_infoC HD.out)) (by assumption) ?_
        simp only [List.setIfInBounds_toArray, List.set_cons_zero, List.set_cons_succ]
        refine held_take (v := q.val) 12 rfl (by kernel_rfl) (by kernel_rfl) (by kernel_rfl) (fun _ _ _ h => h) (by rfl) (fun W hSw => exec_load_any _ (.tmp 2) rfl Bp 0 q.row _ rfl (rangeAll hSw.2.2.2) Try.underlying32 rfl (pf_infoC HQ.out)) (by assumption) ?_
        simp only [List.setIfInBounds_toArray, List.set_cons_zero, List.set_cons_succ]
        refine held_one 13 rfl (by kernel_rfl) (by rfl) (fun K hK => ?_)
        go_simp
        refine (HC.out _).mono ?_
        rintro e w1 ⟨rfl, b1⟩
        have hb1 : Below wr.heap.size wr w1 := (Below.refl wr.heap.size wr).drew.trans b1
        have hH1 := HHA.out _ hb1
        refine hK.out _ _ hH1 (fun _ => ?_)
        clear hK K
        refine held_take (v := ?v334) 14 rfl (by kernel_rfl) (by kernel_rfl) (by kernel_rfl) (fun _ _ _ h => h) (by rfl) ?y334 (by assumption) ?_
        case y334 => (intro w hSw; unfold HeldA at hSw; go_simp; (try with_reducible rfl); (try omega))
        simp only [List.setIfInBounds_toArray, List.set_cons_zero, List.set_cons_succ]
        refine wpAnyH_done (by kernel_rfl) ?_ _
        refine NoPanic.normal ?_
        have hJ1 := hJ _ _ _ none hJs (grown_of_below9 hb1) (fun r e => by cases e)
        have hwr1 := Nat.le_trans hwr hb1.size
        have hBt1 := HBTR.out.up hb1
        have hBp1 := HBPR.out.up hb1
        have hG1 := HGR.out.up hb1
        have c4 := hG1.c4
        have c0 : w1.cell? ⟨Bt, 0, none⟩ = some (.pointer (some ⟨g, 0, none⟩)) := hH1.1
        have R3 := Lib.hid (hG1.range m d hd)
        have HG1 := Lib.hid hG1
        clear hJs hwr hb1 b1 hH1 hHeld HHA HGR hG1 HBTR HBPR
        have HS := Lib.hid (fun W => side_any d q W HD.out HQ.out)
        obtain ⟨s, hs⟩ : ∃ s, sideB q.addr d.p.len = s := ⟨_, rfl⟩
        have HSD := Lib.hid hs
        rw [hs] at HS hA1
        clear hs
        obtain ⟨k, hk⟩ : ∃ k : Nat, k = if s then 1 else 0 := ⟨_, rfl⟩
        rw [show (if s = true then (1 : Int) else 0) = (k : Int) by rw [hk]; cases s <;> rfl] at HS
        have hk2 : k < 2 := by rw [hk]; cases s <;> decide
        have HK := Lib.hid hk
        have hk3 : (k : Int) < 2 := by omega
        clear hk
        have HNN := Lib.hid (Bx.new w1 79 d.row)
        have hbN : Below w1.heap.size w1 (w1.alloc (.cells d.row.toArray 79)) := (Below.refl _ _).alloc (Nat.le_refl _) _
        have hJN := hJ _ _ _ none hJ1 (grown_of_below9 hbN) (fun r e => by cases e)
        have HGN := Lib.hid (HG1.out.up hbN)
        have HBTN := Lib.hid (hBt1.up hbN)
        have HBPN := Lib.hid (hBp1.up hbN)
        have hwN := Nat.le_trans hwr1 hbN.size
        have c19 : (w1.alloc (.cells d.row.toArray 79)).cell? ⟨w1.heap.size, 19, none⟩ = some (.bool d.held) := by rw [HNN.out.cell]; exact nd_held HD.out
        gi_wp2_with (first
          | (refine inV rfl (by intro c h; cases h) rfl d.val (exec_load_any _ (.tmp 30) rfl gn (m * 22) d.row _ rfl R3.out Try.underlying79 rfl (nd_infoC HD.out)) ?_)
          | (refine inS rfl (by intro c h; cases h) rfl (exec_store_fresh _ (.tmp 5) (.tmp 31) rfl d.row _ w1.heap.size rfl rfl rfl (nd_infoC HD.out) (by rw [nd_len HD.out]; rfl) (nd_one d)) ?_; refine Hid.out ?_))
        refine Lib.hid ?_
        have hxN : w0.heap.size ≤ w1.heap.size := hwr1
        clear hJ1 hBt1 hBp1 hwr1 c4 c0 hbN R3 HG1
        generalize hWN : w1.alloc (.cells d.row.toArray 79) = WN at *
        clear hWN
        have HI := Lib.hid (HNN.out.range 0 (itR d.p d.v) nd_it)
        cases hh : d.held with
        | false =>
          rw [hh] at c19
          have RA := Lib.hid (rangeAll HNN.out)
          have RB := Lib.hid (rangeAll HBPN.out)
          have HN3 := HNN
          have HJ3 := Lib.hid hJN
          have HG3 := HGN
          have HBT3 := HBTN
          have HBP3 := HBPN
          have hw3 := hwN
          have eqn : items = itemsT pre ++ rest1 := by rw [hit]; unfold ownN; rw [hh]; rfl
          gi_wp2
          refine ⟨fun _ h => (by cases h), ?_⟩
          gi_wp2_with (first
            | (refine inV rfl (by intro c h; cases h) rfl d.val (exec_load_any _ (.tmp 5) rfl w1.heap.size 0 d.row _ rfl RA.out Try.underlying79 rfl (nd_infoC HD.out)) ?_)
            | (refine inV rfl (by intro c h; cases h) rfl q.val (exec_load_any _ (.tmp 2) rfl Bp 0 q.row _ rfl RB.out Try.underlying32 rfl (pf_infoC HQ.out)) ?_)
            | (refine ⟨trivial, ?_⟩; gi_at_call 36; refine (callsIn_wide.2 (HS.out _)).mono ?_; rintro e w4 ⟨rfl, b4⟩; refine Hid.out ?_))
          refine Lib.hid ?_
          have hkc := kid_cell HD.out (HN3.out.up b4) s k HK.out
          gi_wp2
          go_roundw
          case rel =>
            exact ⟨d.kid s, f', pre, rest1, rfl, by omega, hA1, eqn, hJ _ _ _ none HJ3.out (grown_of_below9 b4) (fun r e => by cases e), HG3.out.up b4, HBT3.out.up b4, HBP3.out.up b4, Nat.le_trans hw3 b4.size⟩
          case measure =>
            have e1 := cnt_eq T.nds q f' (f - 1) _ _ hA1 (by omega)
            have e2 := cnt_eq T.nds q f' f _ _ hA1 (by omega)
            show cntN f T.nds (intOf9 (.int .i64 ((d.kid s : Nat) : Int))) q < cntN f T.nds (intOf9 (.int .i64 (m : Int))) q
            simp only [intOf9, Int.toNat_natCast]
            have e3 : ∀ F, cntN (F + 1) T.nds m q = 1 + cntN F T.nds (d.kid s) q := fun F => by
              conv => lhs; unfold cntN
              rw [if_neg hm, hd]
              simp only
              rw [if_pos hc, HSD.out]
            have e4 := e3 (f - 1)
            rw [show f - 1 + 1 = f by omega] at e4
            omega
        | true =>
          rw [hh] at c19
          obtain ⟨fn, tmps, assign, body, hy, hR⟩ := hY pre ⟨(d.p, d.v), HD.out⟩ WN hJN (by
            rw [hit]; unfold ownN itemsT; rw [hh]; simp)
          dsimp only at hy
          gi_wp2_with (first
            | (refine inV rfl (by intro c h; cases h) rfl (itV d.p d.v) (exec_load_any _ (.tmp 36) rfl w1.heap.size 0 (itR d.p d.v) _ rfl HI.out Try.underlying44 rfl (it_infoC HD.out d.v)) ?_))
          refine hR.mono ?_
          clear hR hy
          rintro e W3 (⟨rfl, hJ3, hk3⟩ | ⟨rfl, hJx3⟩)
          · have hnO : ¬ O w1.heap.size := fun h => by have := (hO _ h).1; omega
            have HN3 := Lib.hid (HNN.out.kp hk3 hnO)
            have HBP3 := Lib.hid (HBPN.out.kp hk3 (fun h => (hO _ h).2.2.2 rfl))
            have HBT3 := Lib.hid (HBTN.out.kp hk3 (fun h => (hO _ h).2.2.1 rfl))
            have HG3 := Lib.hid (HGN.out.kp hk3 (fun k hx h => (hO _ h).2.1 hx))
            have RA := Lib.hid (rangeAll HN3.out)
            have RB := Lib.hid (rangeAll HBP3.out)
            have HJ3 := Lib.hid hJ3
            have hw3 := Nat.le_trans hwN hk3.1
            have eqn : items = itemsT (pre ++ [⟨(d.p, d.v), HD.out⟩]) ++ rest1 := by rw [hit]; unfold ownN itemsT; rw [hh]; simp
            clear hJ3 hk3 hJN HNN HI HGN HBTN HBPN c19
            gi_wp2_with (first
              | (refine inV rfl (by intro c h; cases h) rfl d.val (exec_load_any _ (.tmp 5) rfl w1.heap.size 0 d.row _ rfl RA.out Try.underlying79 rfl (nd_infoC HD.out)) ?_)
              | (refine inV rfl (by intro c h; cases h) rfl q.val (exec_load_any _ (.tmp 2) rfl Bp 0 q.row _ rfl RB.out Try.underlying32 rfl (pf_infoC HQ.out)) ?_)
              | (refine ⟨trivial, ?_⟩; gi_at_call 36; refine (callsIn_wide.2 (HS.out _)).mono ?_; rintro e w4 ⟨rfl, b4⟩; refine Hid.out ?_))
            refine Lib.hid ?_
            have hkc := kid_cell HD.out (HN3.out.up b4) s k HK.out
            gi_wp2
            go_roundw
            case rel =>
              exact ⟨d.kid s, f', _, rest1, rfl, by omega, hA1, eqn, hJ _ _ _ none HJ3.out (grown_of_below9 b4) (fun r e => by cases e), HG3.out.up b4, HBT3.out.up b4, HBP3.out.up b4, Nat.le_trans hw3 b4.size⟩
            case measure =>
              have e1 := cnt_eq T.nds q f' (f - 1) _ _ hA1 (by omega)
              have e2 := cnt_eq T.nds q f' f _ _ hA1 (by omega)
              show cntN f T.nds (intOf9 (.int .i64 ((d.kid s : Nat) : Int))) q < cntN f T.nds (intOf9 (.int .i64 (m : Int))) q
              simp only [intOf9, Int.toNat_natCast]
              have e3 : ∀ F, cntN (F + 1) T.nds m q = 1 + cntN F T.nds (d.kid s) q := fun F => by
                conv => lhs; unfold cntN
                rw [if_neg hm, hd]
                simp only
                rw [if_pos hc, HSD.out]
              have e4 := e3 (f - 1)
              rw [show f - 1 + 1 = f by omega] at e4
              omega
          · gi_wp2
            refine bodyPost_ret (results_none rfl _ _ _) rfl ?_
            refine ⟨⟨_, rfl⟩, .inr ⟨_, ?_, hJx3⟩⟩
            rw [hit]
            unfold ownN itemsT
            rw [hh]
            simp
end Go.Proofs.Ytecefdocemkliaa

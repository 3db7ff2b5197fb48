/- takes, above, Get of package lpm. -/
import Derived.Test.YtecefdocemkliaaT9j
namespace Go.Proofs.Ytecefdocemkliaa
open Go Go.RowKit Go.Shelf
attribute [local go_sem] Oper.semAt_some

theorem takes_nil (p : Pfx) (w : World) : Calls Try.prog 20 #[.pointer none, p.val] w fun e w' => e = .returned (.bool false) ∧ Below w.heap.size w w' := by
  have HB := Lib.hid ((Below.refl w.heap.size w).alloc (Nat.le_refl _) (.cells p.row.toArray 32))
  rw [show p.val = .agg p.row.toArray from rfl]
  go_enter Try.func20, Try.ntmps20
  go_wp2
  refine wp_region_noPanic ?_
  refine wp_region_held_drew (S := HeldN) (by kernel_rfl) trivial (fun hHeld => ?_)
  refine held_take (v := ?v13) 0 rfl (by kernel_rfl) (by kernel_rfl) (by kernel_rfl) (fun _ _ _ h => h) (by rfl) ?y13 (by assumption) ?_
  case y13 => (intro w hSw; unfold HeldN at hSw; go_simp; (try with_reducible rfl); (try omega))
  simp only [List.setIfInBounds_toArray, List.set_cons_zero, List.set_cons_succ]
  refine held_take (v := ?v16) 1 rfl (by kernel_rfl) (by kernel_rfl) (by kernel_rfl) (fun _ _ _ h => h) (by rfl) ?y16 (by assumption) ?_
  case y16 => (intro w hSw; unfold HeldN at hSw; go_simp; (try with_reducible rfl); (try omega))
  simp only [List.setIfInBounds_toArray, List.set_cons_zero, List.set_cons_succ]
  refine held_take (v := ?v19) 2 rfl (by kernel_rfl) (by kernel_rfl) (by kernel_rfl) (fun _ _ _ h => h) (by rfl) ?y19 (by assumption) ?_
  case y19 => (intro w hSw; unfold HeldN at hSw; go_simp; (try with_reducible rfl); (try omega))
  simp only [List.setIfInBounds_toArray, List.set_cons_zero, List.set_cons_succ]
  refine held_skip 3 rfl (by kernel_rfl) (by kernel_rfl) (by kernel_rfl) (fun _ _ _ h => h) (by rfl) (by assumption) ?_
  simp only [List.setIfInBounds_toArray, List.set_cons_zero, List.set_cons_succ]
  refine held_skip 4 rfl (by kernel_rfl) (by kernel_rfl) (by kernel_rfl) (fun _ _ _ h => h) (by rfl) (by assumption) ?_
  simp only [List.setIfInBounds_toArray, List.set_cons_zero, List.set_cons_succ]
  refine held_skip 5 rfl (by kernel_rfl) (by kernel_rfl) (by kernel_rfl) (fun _ _ _ h => h) (by rfl) (by assumption) ?_
  simp only [List.setIfInBounds_toArray, List.set_cons_zero, List.set_cons_succ]
  refine held_take (v := ?v28) 6 rfl (by kernel_rfl) (by kernel_rfl) (by kernel_rfl) (fun _ _ _ h => h) (by rfl) ?y28 (by assumption) ?_
  case y28 => (intro w hSw; unfold HeldN at hSw; go_simp; (try with_reducible rfl); (try omega))
  simp only [List.setIfInBounds_toArray, List.set_cons_zero, List.set_cons_succ]
  refine held_take (v := ?v31) 7 rfl (by kernel_rfl) (by kernel_rfl) (by kernel_rfl) (fun _ _ _ h => h) (by rfl) ?y31 (by assumption) ?_
  case y31 => (intro w hSw; unfold HeldN at hSw; go_simp; (try with_reducible rfl); (try omega))
  simp only [List.setIfInBounds_toArray, List.set_cons_zero, List.set_cons_succ]
  refine held_skip 8 rfl (by kernel_rfl) (by kernel_rfl) (by kernel_rfl) (fun _ _ _ h => h) (by rfl) (by assumption) ?_
  simp only [List.setIfInBounds_toArray, List.set_cons_zero, List.set_cons_succ]
  refine held_skip 9 rfl (by kernel_rfl) (by kernel_rfl) (by kernel_rfl) (fun _ _ _ h => h) (by rfl) (by assumption) ?_
  simp only [List.setIfInBounds_toArray, List.set_cons_zero, List.set_cons_succ]
  refine held_skip 10 rfl (by kernel_rfl) (by kernel_rfl) (by kernel_rfl) (fun _ _ _ h => h) (by rfl) (by assumption) ?_
  simp only [List.setIfInBounds_toArray, List.set_cons_zero, List.set_cons_succ]
  refine held_skip 11 rfl (by kernel_rfl) (by kernel_rfl) (by kernel_rfl) (fun _ _ _ h => h) (by rfl) (by assumption) ?_
  simp only [List.setIfInBounds_toArray, List.set_cons_zero, List.set_cons_succ]
  refine held_skip 12 rfl (by kernel_rfl) (by kernel_rfl) (by kernel_rfl) (fun _ _ _ h => h) (by rfl) (by assumption) ?_
  simp only [List.setIfInBounds_toArray, List.set_cons_zero, List.set_cons_succ]
  refine held_skip 13 rfl (by kernel_rfl) (by kernel_rfl) (by kernel_rfl) (fun _ _ _ h => h) (by rfl) (by assumption) ?_
  simp only [List.setIfInBounds_toArray, List.set_cons_zero, List.set_cons_succ]
  refine held_skip 14 rfl (by kernel_rfl) (by kernel_rfl) (by kernel_rfl) (fun _ _ _ h => h) (by rfl) (by assumption) ?_
  simp only [List.setIfInBounds_toArray, List.set_cons_zero, List.set_cons_succ]
  refine held_take (v := ?v48) 15 rfl (by kernel_rfl) (by kernel_rfl) (by kernel_rfl) (fun _ _ _ h => h) (by rfl) ?y48 (by assumption) ?_
  case y48 => (intro w hSw; unfold HeldN at hSw; go_simp; (try with_reducible rfl); (try omega))
  simp only [List.setIfInBounds_toArray, List.set_cons_zero, List.set_cons_succ]
  refine held_take (v := ?v51) 16 rfl (by kernel_rfl) (by kernel_rfl) (by kernel_rfl) (fun _ _ _ h => h) (by rfl) ?y51 (by assumption) ?_
  case y51 => (intro w hSw; unfold HeldN at hSw; go_simp; (try with_reducible rfl); (try omega))
  simp only [List.setIfInBounds_toArray, List.set_cons_zero, List.set_cons_succ]
  refine wpAnyH_done (by kernel_rfl) ?_ _
  refine NoPanic.normal ?_
  go_wp2
  go_ret
  exact ⟨rfl, HB.out.drew⟩
def HeldK (b g : Nat) (s : Bool) (l : List Value) (W : World) : Prop := Bx W b 32 l ∧ W.cell? ⟨b, 0, none⟩ = l[0]? ∧ W.cell? ⟨g, 0, none⟩ = some (.bool s)
set_option maxRecDepth 100000 in
set_option maxHeartbeats 4000000 in
theorem takes_any (T : Tb) (p : Pfx) (w : World) (X : Nat → Prop) (g : Nat) (h : TabM w X g T) (hp : p.addr.length = 16) :
    Calls Try.prog 20 #[.pointer (some ⟨g, 0, none⟩), p.val] w fun e w' => e = .returned (.bool (chkP p && (p.six == T.six))) ∧ Below w.heap.size w w' := by
  obtain ⟨gn, cap, vf, h⟩ := h
  have hb : Below w.heap.size w (w.alloc (.cells p.row.toArray 32)) := (Below.refl _ _).alloc (Nat.le_refl _) _
  have HC := Lib.hid (fun W => pcheck_any p W hp)
  have HP := Lib.hid hp
  have HB := Lib.hid hb
  have c0 := (h.up hb).c0
  have hbx := Bx.new w 32 p.row
  have hgl := h.box.lt
  have HH := Lib.hid (fun W (hb2 : Below (w.alloc (.cells p.row.toArray 32)).heap.size (w.alloc (.cells p.row.toArray 32)) W) =>
    (⟨hbx.up hb2, (hbx.up hb2).cell 0, (hb2.cell (p := ⟨g, 0, none⟩) (by simp; omega)).trans c0⟩ : HeldK w.heap.size g T.six p.row W))
  have HB2 := Lib.hid (fun W (hb2 : Below (w.alloc (.cells p.row.toArray 32)).heap.size (w.alloc (.cells p.row.toArray 32)) W) => below_up hb hb2 hb.size)
  have hrow : p.row[0]? = some (.bool p.six) := rfl
  rw [show p.val = .agg p.row.toArray from rfl]
  generalize p.six = s6 at *
  generalize T.six = t6 at *
  clear h hp hb c0 hbx
  go_enter Try.func20, Try.ntmps20
  go_wp2
  refine wp_region_noPanic ?_
  refine wp_region_held_drew (S := HeldK w.heap.size g t6 p.row) (by kernel_rfl) (HH.out _ (Below.refl _ _).drew) (fun hHeld => ?_)
  refine held_take (v := ?v84) 0 rfl (by kernel_rfl) (by kernel_rfl) (by kernel_rfl) (fun _ _ _ h => h) (by rfl) ?y84 (by assumption) ?_
  case y84 => (intro w hSw; unfold HeldK at hSw; go_simp; (try with_reducible rfl); (try omega))
  simp only [List.setIfInBounds_toArray, List.set_cons_zero, List.set_cons_succ]
  refine held_take (v := ?v87) 1 rfl (by kernel_rfl) (by kernel_rfl) (by kernel_rfl) (fun _ _ _ h => h) (by rfl) ?y87 (by assumption) ?_
  case y87 => (intro w hSw; unfold HeldK at hSw; go_simp; (try with_reducible rfl); (try omega))
  simp only [List.setIfInBounds_toArray, List.set_cons_zero, List.set_cons_succ]
  refine held_take (v := ?v90) 2 rfl (by kernel_rfl) (by kernel_rfl) (by kernel_rfl) (fun _ _ _ h => h) (by rfl) ?y90 (by assumption) ?_
  case y90 => (intro w hSw; unfold HeldK at hSw; go_simp; (try with_reducible rfl); (try omega))
  simp only [List.setIfInBounds_toArray, List.set_cons_zero, List.set_cons_succ]
  refine held_take (v := p.val) 3 rfl (by kernel_rfl) (by kernel_rfl) (by kernel_rfl) (fun _ _ _ h => h) (by rfl) (fun W hSw => exec_load_any _ (.tmp 3) rfl w.heap.size 0 p.row _ rfl (rangeAll hSw.1) Try.underlying32 rfl (pf_infoC HP.out)) (by assumption) ?_
  simp only [List.setIfInBounds_toArray, List.set_cons_zero, List.set_cons_succ]
  refine held_one 4 rfl (by kernel_rfl) (by rfl) (fun K hK => ?_)
  go_simp
  refine (HC.out _).mono ?_
  rintro e w1 ⟨rfl, b1⟩
  have hb1 := (Below.refl _ (w.alloc (.cells p.row.toArray 32))).drew.trans b1
  have hH1 := HH.out _ hb1
  have HB3 := Lib.hid (HB2.out _ hb1)
  refine hK.out _ _ hH1 (fun _ => ?_)
  clear hK K b1 hb1 hHeld
  cases hck : chkP p
  · simp only [Bool.false_eq_true, if_false]
    refine held_take (v := ?v106) 5 rfl (by kernel_rfl) (by kernel_rfl) (by kernel_rfl) (fun _ _ _ h => h) (by rfl) ?y106 (by assumption) ?_
    case y106 => (intro w hSw; unfold HeldK at hSw; go_simp; (try with_reducible rfl); (try omega))
    simp only [List.setIfInBounds_toArray, List.set_cons_zero, List.set_cons_succ]
    refine held_take (v := ?v109) 6 rfl (by kernel_rfl) (by kernel_rfl) (by kernel_rfl) (fun _ _ _ h => h) (by rfl) ?y109 (by assumption) ?_
    case y109 => (intro w hSw; unfold HeldK at hSw; go_simp; (try with_reducible rfl); (try omega))
    simp only [List.setIfInBounds_toArray, List.set_cons_zero, List.set_cons_succ]
    refine held_take (v := ?v112) 7 rfl (by kernel_rfl) (by kernel_rfl) (by kernel_rfl) (fun _ _ _ h => h) (by rfl) ?y112 (by assumption) ?_
    case y112 => (intro w hSw; unfold HeldK at hSw; go_simp; (try with_reducible rfl); (try omega))
    simp only [List.setIfInBounds_toArray, List.set_cons_zero, List.set_cons_succ]
    refine held_skip 8 rfl (by kernel_rfl) (by kernel_rfl) (by kernel_rfl) (fun _ _ _ h => h) (by rfl) (by assumption) ?_
    simp only [List.setIfInBounds_toArray, List.set_cons_zero, List.set_cons_succ]
    refine held_skip 9 rfl (by kernel_rfl) (by kernel_rfl) (by kernel_rfl) (fun _ _ _ h => h) (by rfl) (by assumption) ?_
    simp only [List.setIfInBounds_toArray, List.set_cons_zero, List.set_cons_succ]
    refine held_skip 10 rfl (by kernel_rfl) (by kernel_rfl) (by kernel_rfl) (fun _ _ _ h => h) (by rfl) (by assumption) ?_
    simp only [List.setIfInBounds_toArray, List.set_cons_zero, List.set_cons_succ]
    refine held_skip 11 rfl (by kernel_rfl) (by kernel_rfl) (by kernel_rfl) (fun _ _ _ h => h) (by rfl) (by assumption) ?_
    simp only [List.setIfInBounds_toArray, List.set_cons_zero, List.set_cons_succ]
    refine held_skip 12 rfl (by kernel_rfl) (by kernel_rfl) (by kernel_rfl) (fun _ _ _ h => h) (by rfl) (by assumption) ?_
    simp only [List.setIfInBounds_toArray, List.set_cons_zero, List.set_cons_succ]
    refine held_skip 13 rfl (by kernel_rfl) (by kernel_rfl) (by kernel_rfl) (fun _ _ _ h => h) (by rfl) (by assumption) ?_
    simp only [List.setIfInBounds_toArray, List.set_cons_zero, List.set_cons_succ]
    refine held_skip 14 rfl (by kernel_rfl) (by kernel_rfl) (by kernel_rfl) (fun _ _ _ h => h) (by rfl) (by assumption) ?_
    simp only [List.setIfInBounds_toArray, List.set_cons_zero, List.set_cons_succ]
    refine held_take (v := ?v129) 15 rfl (by kernel_rfl) (by kernel_rfl) (by kernel_rfl) (fun _ _ _ h => h) (by rfl) ?y129 (by assumption) ?_
    case y129 => (intro w hSw; unfold HeldK at hSw; go_simp; (try with_reducible rfl); (try omega))
    simp only [List.setIfInBounds_toArray, List.set_cons_zero, List.set_cons_succ]
    refine held_take (v := ?v132) 16 rfl (by kernel_rfl) (by kernel_rfl) (by kernel_rfl) (fun _ _ _ h => h) (by rfl) ?y132 (by assumption) ?_
    case y132 => (intro w hSw; unfold HeldK at hSw; go_simp; (try with_reducible rfl); (try omega))
    simp only [List.setIfInBounds_toArray, List.set_cons_zero, List.set_cons_succ]
    refine wpAnyH_done (by kernel_rfl) ?_ _
    refine NoPanic.normal ?_
    go_wp2
    go_ret
    exact ⟨by rw [hck]; rfl, HB3.out⟩
  · simp only [if_true]
    refine held_take (v := ?v141) 5 rfl (by kernel_rfl) (by kernel_rfl) (by kernel_rfl) (fun _ _ _ h => h) (by rfl) ?y141 (by assumption) ?_
    case y141 => (intro w hSw; unfold HeldK at hSw; go_simp; (try with_reducible rfl); (try omega))
    simp only [List.setIfInBounds_toArray, List.set_cons_zero, List.set_cons_succ]
    refine held_take (v := ?v144) 6 rfl (by kernel_rfl) (by kernel_rfl) (by kernel_rfl) (fun _ _ _ h => h) (by rfl) ?y144 (by assumption) ?_
    case y144 => (intro w hSw; unfold HeldK at hSw; go_simp; (try with_reducible rfl); (try omega))
    simp only [List.setIfInBounds_toArray, List.set_cons_zero, List.set_cons_succ]
    refine held_take (v := ?v147) 7 rfl (by kernel_rfl) (by kernel_rfl) (by kernel_rfl) (fun _ _ _ h => h) (by rfl) ?y147 (by assumption) ?_
    case y147 => (intro w hSw; unfold HeldK at hSw; go_simp; (try with_reducible rfl); (try omega))
    simp only [List.setIfInBounds_toArray, List.set_cons_zero, List.set_cons_succ]
    refine held_take (v := ?v150) 8 rfl (by kernel_rfl) (by kernel_rfl) (by kernel_rfl) (fun _ _ _ h => h) (by rfl) ?y150 (by assumption) ?_
    case y150 => (intro w hSw; unfold HeldK at hSw; go_simp; (try with_reducible rfl); (try omega))
    simp only [List.setIfInBounds_toArray, List.set_cons_zero, List.set_cons_succ]
    refine held_take (v := .bool s6) 9 rfl (by kernel_rfl) (by kernel_rfl) (by kernel_rfl) (fun _ _ _ h => h) (by rfl) (fun W hSw => (by have h1 : W.cell? ⟨w.heap.size, 0, none⟩ = some (.bool s6) := hSw.2.1.trans hrow; go_simp)) (by assumption) ?_
    simp only [List.setIfInBounds_toArray, List.set_cons_zero, List.set_cons_succ]
    refine held_take (v := ?v155) 10 rfl (by kernel_rfl) (by kernel_rfl) (by kernel_rfl) (fun _ _ _ h => h) (by rfl) ?y155 (by assumption) ?_
    case y155 => (intro w hSw; unfold HeldK at hSw; go_simp; (try with_reducible rfl); (try omega))
    simp only [List.setIfInBounds_toArray, List.set_cons_zero, List.set_cons_succ]
    refine held_take (v := ?v158) 11 rfl (by kernel_rfl) (by kernel_rfl) (by kernel_rfl) (fun _ _ _ h => h) (by rfl) ?y158 (by assumption) ?_
    case y158 => (intro w hSw; unfold HeldK at hSw; go_simp; (try with_reducible rfl); (try omega))
    simp only [List.setIfInBounds_toArray, List.set_cons_zero, List.set_cons_succ]
    refine held_take (v := ?v161) 12 rfl (by kernel_rfl) (by kernel_rfl) (by kernel_rfl) (fun _ _ _ h => h) (by rfl) ?y161 (by assumption) ?_
    case y161 => (intro w hSw; unfold HeldK at hSw; go_simp; (try with_reducible rfl); (try omega))
    simp only [List.setIfInBounds_toArray, List.set_cons_zero, List.set_cons_succ]
    refine held_take (v := ?v164) 13 rfl (by kernel_rfl) (by kernel_rfl) (by kernel_rfl) (fun _ _ _ h => h) (by rfl) ?y164 (by assumption) ?_
    case y164 => (intro w hSw; unfold HeldK at hSw; go_simp; (try with_reducible rfl); (try omega))
    simp only [List.setIfInBounds_toArray, List.set_cons_zero, List.set_cons_succ]
    refine held_take (v := .bool (s6 == t6)) 14 rfl (by kernel_rfl) (by kernel_rfl) (by kernel_rfl) (fun _ _ _ h => h) (by rfl) (fun W hSw => (by cases s6 <;> cases t6 <;> (go_simp; try rfl))) (by assumption) ?_
    simp only [List.setIfInBounds_toArray, List.set_cons_zero, List.set_cons_succ]
    refine held_take (v := ?v169) 15 rfl (by kernel_rfl) (by kernel_rfl) (by kernel_rfl) (fun _ _ _ h => h) (by rfl) ?y169 (by assumption) ?_
    case y169 => (intro w hSw; unfold HeldK at hSw; go_simp; (try with_reducible rfl); (try omega))
    simp only [List.setIfInBounds_toArray, List.set_cons_zero, List.set_cons_succ]
    refine held_take (v := ?v172) 16 rfl (by kernel_rfl) (by kernel_rfl) (by kernel_rfl) (fun _ _ _ h => h) (by rfl) ?y172 (by assumption) ?_
    case y172 => (intro w hSw; unfold HeldK at hSw; go_simp; (try with_reducible rfl); (try omega))
    simp only [List.setIfInBounds_toArray, List.set_cons_zero, List.set_cons_succ]
    refine wpAnyH_done (by kernel_rfl) ?_ _
    refine NoPanic.normal ?_
    go_wp2
    go_ret
    exact ⟨by rw [hck]; rfl, HB3.out⟩
set_option maxHeartbeats 1000000 in
theorem above_in (n : Nat) (g : Nat) (q : Pfx) (w : World) :
    CallsIn Fence.wide n Try.prog 24 #[.pointer (some ⟨g, 0, none⟩), q.val] w fun e w' => e = .returned (.func (.func 39) #[] #[.pointer (some ⟨w.heap.size, 0, none⟩), .pointer (some ⟨w.heap.size + 1, 0, none⟩)]) ∧
      w' = (w.alloc (.cells #[.pointer (some ⟨g, 0, none⟩)] 24)).alloc (.cells q.row.toArray 32) := by
  rw [show q.val = .agg q.row.toArray from rfl]
  refine callsIn_of_wp Try.func24 rfl trivial ?_ rfl
  simp only [Try.ntmps24, List.size_toArray, List.length_cons, List.length_nil, Nat.reduceAdd, Nat.reduceSub, Array.replicate_succ, Array.replicate_zero, List.push_toArray, List.append_toArray, List.nil_append, List.cons_append]
  gi_wp2
  go_ret
  exact ⟨rfl, rfl⟩
theorem above_stops (n : Nat) (hn : 1 ≤ n) (Bt Bp : Nat) (q : Pfx) (hq : q.addr.length = 16) (w : World) (X : Nat → Prop) (g : Nat) (T : Tb) (O : Nat → Prop) (f : Nat) (items : List (Pfx × Int)) (hI : aboveN f T.nds T.root q = some items)
    (hT : TabM w X g T) (hBt : Bx w Bt 24 [.pointer (some ⟨g, 0, none⟩)]) (hBp : Bx w Bp 32 q.row) (hO : ∀ k, O k → k < w.heap.size ∧ ¬ X k ∧ k ≠ Bt ∧ k ≠ Bp) :
    SeqStopsK Fence.wide n Try.prog 39 #[.pointer (some ⟨Bt, 0, none⟩), .pointer (some ⟨Bp, 0, none⟩)] (fun x : It => #[itV x.1.1 x.1.2]) (KpO O) (fun ys => itemsT ys = items) (fun pre => itemsT pre <+: items) items.length w := fun l J Jx W hW hJ _ hY h0 =>
  above1_in n hn l Bt Bp q hq w X g T O f items hI J Jx hY W (hT.up hW) hJ hW.size (hBt.up hW) (hBp.up hW) hO h0
/-! What speaks of cells alone. -/
theorem bx_from {X Y : World} {row : Option Nat} {B b : Nat} {t : TypeId} {l : List Value} (h : Bx X b t l) (hg : X.grownBy Y row) (hr : ∀ r, row = some r → B ≤ r ∧ ∃ o : Obj, X.heap[r]? = some o ∧ o.isCells = false) : Bx Y b t l := by
  refine (hg.block b h.lt (fun e => ?_)).trans h
  obtain ⟨_, o, ho, hc⟩ := hr b e.symm
  rw [show X.heap[b]? = _ from h] at ho
  cases ho
  cases hc
def getI (p : Pfx) : List (Pfx × Int) → Option Int
  | [] => none
  | x :: l => if eqP x.1 p = true then some x.2 else getI p l
theorem getI_no (p : Pfx) : ∀ l : List (Pfx × Int), (∀ x ∈ l, eqP x.1 p = false) → ∀ m, getI p (l ++ m) = getI p m
  | [], _, _ => rfl
  | x :: l, h, m => by
    rw [List.cons_append, getI, if_neg (by rw [h x (by simp)]; simp)]
    exact getI_no p l (fun y hy => h y (by simp [hy])) m
/-- Between two rounds of Get's loop, and where one has returned. -/
structure GetI (w : World) (p : Pfx) (v : Int) (b : Bool) (W : World) : Prop where
  r0 : Bx W w.heap.size 32 p.row
  r1 : Bx W (w.heap.size + 1) 3 [.int .i64 v]
  r2 : Bx W (w.heap.size + 1 + 1) 4 [.bool b]
  below : Below w.heap.size w W
theorem GetI.from {w : World} {p : Pfx} {v : Int} {b : Bool} {B : Nat} (hB : w.heap.size ≤ B) {X Y : World} {row : Option Nat} (h : GetI w p v b X) (hg : X.grownBy Y row) (hr : ∀ r, row = some r → B ≤ r ∧ ∃ o : Obj, X.heap[r]? = some o ∧ o.isCells = false) : GetI w p v b Y :=
  ⟨bx_from h.r0 hg hr, bx_from h.r1 hg hr, bx_from h.r2 hg hr, ownFrom_below (β := Unit) (Nat.le_refl _) hB () X Y row h.below hg hr⟩
theorem GetI.up {w : World} {p : Pfx} {v : Int} {b : Bool} {W W' : World} (h : GetI w p v b W) (hb : Below W.heap.size W W') : GetI w p v b W' := ⟨h.r0.up hb, h.r1.up hb, h.r2.up hb, below_up h.below hb h.below.size⟩
def getIx (w : World) (p : Pfx) (c : Code) (pre : List It) (W : World) : Prop :=
  c = .ret ∧ ∃ pre0 x, pre = pre0 ++ [x] ∧ (∀ y ∈ itemsT pre0, eqP y.1 p = false) ∧ eqP x.1.1 p = true ∧ GetI w p x.1.2 true W
set_option maxRecDepth 100000 in
set_option maxHeartbeats 4000000 in
theorem get_tab (T : Tb) (p : Pfx) (w : World) (X : Nat → Prop) (g : Nat) (h : TabM w X g T) (hp : p.addr.length = 16) (ht : (chkP p && (p.six == T.six)) = true) (f : Nat) (items : List (Pfx × Int)) (hI : aboveN f T.nds T.root p = some items) :
    Calls Try.prog 11 #[.pointer (some ⟨g, 0, none⟩), p.val] w fun e w' => e = .returned (.tuple #[.int .i64 ((getI p items).getD 0), .bool (getI p items).isSome]) ∧ Below w.heap.size w w' := by
  have HT := Lib.hid (fun W (hW : TabM W X g T) => takes_any T p W X g hW hp)
  rw [ht] at HT
  have hz : GetI w p 0 false (((w.alloc (.cells p.row.toArray 32)).alloc (.cells #[.int .i64 0] 3)).alloc (.cells #[.bool false] 4)) := by
    refine ⟨((Bx.new w _ p.row).al _).al _, ?_, ?_, (((Below.refl _ _).alloc (Nat.le_refl _) _).alloc (by simp) _).alloc (by simp; omega) _⟩
    · have := (Bx.new (w.alloc (.cells p.row.toArray 32)) 3 [.int .i64 0]).al (.cells #[.bool false] 4)
      rwa [World.size_alloc] at this
    · have := Bx.new ((w.alloc (.cells p.row.toArray 32)).alloc (.cells #[.int .i64 0] 3)) 4 [.bool false]
      rwa [World.size_alloc, World.size_alloc] at this
  have HZ := Lib.hid hz
  have HTM := Lib.hid (h.up hz.below)
  have HL := Lib.hid h.low
  have HP := Lib.hid hp
  rw [show p.val = .agg p.row.toArray from rfl]
  clear h hp ht hz
  refine (callsIn_wide (n := 5)).1 ?_
  refine callsIn_of_wp_marks Try.func11 rfl trivial ?_ rfl
  simp only [Try.ntmps11, List.size_toArray, List.length_cons, List.length_nil, Nat.reduceAdd, Nat.reduceSub, Array.replicate_succ, Array.replicate_zero, List.push_toArray, List.append_toArray, List.nil_append, List.cons_append]
  have R0 := Lib.hid (rangeAll HZ.out.r0)
  gi_wp2_with (first
    | (refine inV rfl (by intro c h; cases h) rfl p.val (exec_load_any _ (.tmp 3) rfl w.heap.size 0 p.row _ rfl R0.out Try.underlying32 rfl (pf_infoC HP.out)) ?_)
    | (refine ⟨trivial, ?_⟩; gi_at_call 20; refine (callsIn_wide.2 (HT.out _ HTM.out)).mono ?_; rintro e w1 ⟨rfl, b1⟩; refine Hid.out ?_))
  refine Lib.hid ?_
  have z1 := HZ.out.up b1
  have t1 := HTM.out.up b1
  have hsz1 : w.heap.size + 1 + 1 < w1.heap.size := z1.r2.lt
  have R1 := Lib.hid (rangeAll z1.r0)
  clear HZ HTM b1 R0
  gi_wp2_with (first
    | (refine inV rfl (by intro c h; cases h) rfl p.val (exec_load_any _ (.tmp 3) rfl w.heap.size 0 p.row _ rfl R1.out Try.underlying32 rfl (pf_infoC HP.out)) ?_)
    | (refine ⟨trivial, ?_⟩; gi_at_call 24; refine (above_in _ _ _ _).mono ?_; rintro e w' ⟨rfl, rfl⟩; refine Hid.out ?_))
  refine Lib.hid ?_
  have z2 := z1.up (((Below.refl _ _).alloc (Nat.le_refl _) (.cells #[.pointer (some ⟨g, 0, none⟩)] 24)).alloc (by simp) (.cells p.row.toArray 32))
  have t2 := t1.up (((Below.refl _ _).alloc (Nat.le_refl _) (.cells #[.pointer (some ⟨g, 0, none⟩)] 24)).alloc (by simp) (.cells p.row.toArray 32))
  have hab := twoB_new w1 24 32 [.pointer (some ⟨g, 0, none⟩)] p.row
  have hsz2 : ((w1.alloc (.cells #[.pointer (some ⟨g, 0, none⟩)] 24)).alloc (.cells p.row.toArray 32)).heap.size = w1.heap.size + 2 := by simp
  clear z1 t1 R1
  generalize (w1.alloc (.cells #[.pointer (some ⟨g, 0, none⟩)] 24)).alloc (.cells p.row.toArray 32) = W0 at *
  gi_wp2
  refine wpIn_rangeFunc_ownH (n := 5) rfl (by omega) (gf := 39) (lb := #[.pointer (some ⟨w1.heap.size, 0, none⟩), .pointer (some ⟨w1.heap.size + 1, 0, none⟩)]) rfl trivial (enters_of Try.func39 (by kernel_rfl) rfl)
    (above_stops 4 (by omega) w1.heap.size (w1.heap.size + 1) p HP.out W0 X g T (fun k => k = w.heap.size + 1 ∨ k = w.heap.size + 1 + 1) f items hI t2 hab.1 hab.2.1
      (fun k hk => ⟨by omega, fun hx => by have := HL.out k hx; omega, by omega, by omega⟩))
    (fun h k => h.trans k) (fun W l o o' _ hl hc _ => KpO.put _ W l o o' hl hc) (Below.refl _ _) (fun _ => rfl)
    (fun pre W => (∀ y ∈ itemsT pre, eqP y.1 p = false) ∧ GetI w p 0 false W) (getIx w p)
    (fun s X Y row h1 h2 h3 => ⟨h1.1, GetI.from (by omega) h1.2 h2 h3⟩)
    (fun c s X Y row h1 h2 h3 => by obtain ⟨e, pre0, x, e1, e2, e3, e4⟩ := h1; exact ⟨e, pre0, x, e1, e2, e3, GetI.from (by omega) e4 h2 h3⟩)
    ⟨fun _ h => by simp [itemsT] at h, z2⟩
    (fun x a' W => ∃ B6, w.heap.size + 1 + 1 < B6 ∧ Bx W B6 44 (itR x.1.1 x.1.2) ∧ a' = { tmps := #[.pointer (some ⟨g, 0, none⟩), .agg p.row.toArray, undef, .pointer (some ⟨w.heap.size, 0, none⟩), .pointer (some ⟨w.heap.size + 1, 0, none⟩), .pointer (some ⟨w.heap.size + 1 + 1, 0, none⟩), .pointer (some ⟨B6, 0, none⟩), .pointer (some ⟨g, 0, none⟩), p.val, .bool true, .bool false, .pointer (some ⟨g, 0, none⟩), p.val,
      .func (.func 39) #[] #[.pointer (some ⟨w1.heap.size, 0, none⟩), .pointer (some ⟨w1.heap.size + 1, 0, none⟩)], itV x.1.1 x.1.2, undef, undef, undef, undef, undef, undef], defers := [] })
    (fun x a' s X Y row h1 h2 h3 => by obtain ⟨B6, e1, e2, e3⟩ := h1; exact ⟨B6, e1, bx_from e2 h2 h3, e3⟩)
    ?assign ?body ?done ?stop
  case assign =>
    rintro l pre x W K ⟨hno, hi⟩ hK
    have hbb : Below W.heap.size W (W.alloc (.cells (itR x.1.1 x.1.2).toArray 44)) := (Below.refl _ _).alloc (Nat.le_refl _) _
    gi_wp2_with (refine inS rfl (by intro c h; cases h) rfl (exec_store_fresh _ (.tmp 6) (.tmp 14) rfl (itR x.1.1 x.1.2) _ W.heap.size rfl rfl rfl (it_infoC x.2 _) (by rw [it_len x.2]; rfl) (it_one _ _)) ?_; refine Hid.out ?_)
    refine Lib.hid ?_
    gi_wp2
    exact hK _ _ ((KeepsOthers.alloc _ _).from _) (KpO.below hbb) ⟨hno, hi.up hbb⟩ ⟨W.heap.size, hi.r2.lt, Bx.new W _ _, rfl⟩
  case body =>
    rintro l pre x a' W hl _ ⟨hno, hi⟩ ⟨B6, hB6, hx6, rfl⟩ hlt
    have RX := Lib.hid (hx6.range 0 x.1.1.row it_pre)
    have RP := Lib.hid (rangeAll hi.r0)
    have HI := Lib.hid hi
    have HX := Lib.hid hx6
    have cv : W.cell? ⟨B6, 18, none⟩ = some (.int .i64 x.1.2) := by rw [hx6.cell]; exact it_v x.2
    have c1 : W.cell? ⟨w.heap.size + 1, 0, none⟩ = some (.int .i64 0) := by rw [hi.r1.cell]; rfl
    have c2 : W.cell? ⟨w.heap.size + 1 + 1, 0, none⟩ = some (.bool false) := by rw [hi.r2.cell]; rfl
    have y1 := hi.r1.frozen 0
    have y2 := hi.r2.frozen 0
    have hL1 := hi.r1.lt
    have hL2 := hi.r2.lt
    clear hi hx6
    cases hq : eqP x.1.1 p with
    | true =>
      gi_wp2_with (first
        | (refine inV rfl (by intro c h; cases h) rfl x.1.1.val (exec_load_any _ (.tmp 15) rfl B6 0 x.1.1.row _ rfl RX.out Try.underlying32 rfl (pf_infoC x.2)) ?_)
        | (refine inV rfl (by intro c h; cases h) rfl p.val (exec_load_any _ (.tmp 3) rfl w.heap.size 0 p.row _ rfl RP.out Try.underlying32 rfl (pf_infoC HP.out)) ?_)
        | (refine inV rfl (by intro c h; cases h) rfl (.bool true) (hq ▸ exec_eql_pfx 16 17 _ rfl x.1.1 p x.2 HP.out rfl rfl) ?_; refine Hid.out ?_))
      refine Lib.hid ?_
      gi_wp2
      have g1 := (HI.out.r1.set 0 (.int .i64 x.1.2)).setOther (k := w.heap.size + 1 + 1) (by omega) 0 (.bool true)
      have g2 := (HI.out.r2.setOther (k := w.heap.size + 1) (by omega) 0 (.int .i64 x.1.2)).set 0 (.bool true)
      have g0 := (HI.out.r0.setOther (k := w.heap.size + 1) (by omega) 0 (.int .i64 x.1.2)).setOther (k := w.heap.size + 1 + 1) (by omega) 0 (.bool true)
      refine ⟨((KeepsOthers.setCell _ _ _).trans (KeepsOthers.setCell _ _ _)).from _, rfl, pre, x, rfl, hno, hq, g0, g1, g2, (HI.out.below.setCell (p := ⟨w.heap.size + 1, 0, none⟩) (by simp) _).setCell (p := ⟨w.heap.size + 1 + 1, 0, none⟩) (by simp; omega) _⟩
    | false =>
      gi_wp2_with (first
        | (refine inV rfl (by intro c h; cases h) rfl x.1.1.val (exec_load_any _ (.tmp 15) rfl B6 0 x.1.1.row _ rfl RX.out Try.underlying32 rfl (pf_infoC x.2)) ?_)
        | (refine inV rfl (by intro c h; cases h) rfl p.val (exec_load_any _ (.tmp 3) rfl w.heap.size 0 p.row _ rfl RP.out Try.underlying32 rfl (pf_infoC HP.out)) ?_)
        | (refine inV rfl (by intro c h; cases h) rfl (.bool false) (hq ▸ exec_eql_pfx 16 17 _ rfl x.1.1 p x.2 HP.out rfl rfl) ?_; refine Hid.out ?_))
      refine Lib.hid ?_
      gi_wp2
      refine ⟨KeepsFrom.refl _ _, KpO.refl _ _, ?_, HI.out⟩
      intro y hy
      unfold itemsT at hy
      rw [List.map_append] at hy
      rcases List.mem_append.1 hy with hy | hy
      · exact hno y hy
      · simp at hy; subst hy; exact hq
  case done =>
    rintro D xs W hD hS ⟨hno, hi⟩ hK
    have hg : getI p items = none := by
      have := getI_no p (itemsT xs) hno []
      rw [List.append_nil, hS] at this
      exact this
    have c1 : W.cell? ⟨w.heap.size + 1, 0, none⟩ = some (.int .i64 0) := by rw [hi.r1.cell]; rfl
    have c2 : W.cell? ⟨w.heap.size + 1 + 1, 0, none⟩ = some (.bool false) := by rw [hi.r2.cell]; rfl
    have y1 := hi.r1.frozen 0
    have y2 := hi.r2.frozen 0
    have HI := Lib.hid hi
    clear hi
    gi_wp2
    have g1 := (HI.out.r1.set 0 (.int .i64 0)).setOther (k := w.heap.size + 1 + 1) (by omega) 0 (.bool false)
    have g2 := (HI.out.r2.setOther (k := w.heap.size + 1) (by omega) 0 (.int .i64 0)).set 0 (.bool false)
    have gb := (HI.out.below.setCell (p := ⟨w.heap.size + 1, 0, none⟩) (by simp) (.int .i64 0)).setCell (p := ⟨w.heap.size + 1 + 1, 0, none⟩) (by simp; omega) (.bool false)
    have hK2 := ((KeepsOthers.setCell W ⟨w.heap.size + 1, 0, none⟩ (.int .i64 0)).trans (KeepsOthers.setCell _ ⟨w.heap.size + 1 + 1, 0, none⟩ (.bool false))).same D _ hK rfl
    refine ⟨by simp, .inl ⟨_, _, rfl, run_takeDeferred hK2, ?_⟩⟩
    have d1 := cell_kept ((g1.cell 0).trans rfl) (grownBy_putObj' _ D (.deferred none)) (fun r e => by cases e; exact ⟨_, hK2, rfl⟩)
    have d2 := cell_kept ((g2.cell 0).trans rfl) (grownBy_putObj' _ D (.deferred none)) (fun r e => by cases e; exact ⟨_, hK2, rfl⟩)
    refine ⟨.tuple #[.int .i64 0, .bool false], by simp [results, Try.results11, go_sem, d1, d2], by rw [hg]; rfl, gb.trans (belowK_b (w := w) (Nat.le_refl _) _ D _ _ (by omega) hK2 rfl rfl)⟩
  case stop =>
    rintro D c pre W hD hp2 ⟨rfl, pre0, x, rfl, hno, hx, hi⟩ hK
    have hg : getI p items = some x.1.2 := by
      obtain ⟨tl, htl⟩ := hp2
      rw [← htl]
      unfold itemsT at hno ⊢
      rw [List.map_append, List.append_assoc, getI_no p _ hno, List.map_singleton, List.singleton_append, getI, if_pos hx]
    have HI := Lib.hid hi
    clear hi
    gi_wp2
    refine ⟨by simp, .inl ⟨_, _, rfl, run_takeDeferred hK, ?_⟩⟩
    have d1 := cell_kept ((HI.out.r1.cell 0).trans rfl) (grownBy_putObj' _ D (.deferred none)) (fun r e => by cases e; exact ⟨_, hK, rfl⟩)
    have d2 := cell_kept ((HI.out.r2.cell 0).trans rfl) (grownBy_putObj' _ D (.deferred none)) (fun r e => by cases e; exact ⟨_, hK, rfl⟩)
    refine ⟨.tuple #[.int .i64 x.1.2, .bool true], by simp [results, Try.results11, go_sem, d1, d2], by rw [hg]; rfl, HI.out.below.trans (belowK_b (w := w) (Nat.le_refl _) _ D _ _ (by omega) hK rfl rfl)⟩
end Go.Proofs.Ytecefdocemkliaa

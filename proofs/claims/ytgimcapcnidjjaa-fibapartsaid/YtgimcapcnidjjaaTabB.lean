/- remove of package lpm. remove of package lpm, below a node. -/
import Derived.Test.YtgimcapcnidjjaaTabA
namespace Go.Proofs.Ytgimcapcnidjjaa
open Go Go.RowKit

def finR (T : Tb) (n : Nat) (d : Nd) : Option (Nat × Tb) :=
  if n < T.nds.length then (if d.held = true ∨ (d.k0 ≠ 0 ∧ d.k1 ≠ 0) then some (n, { T with nds := T.nds.set n d }) else some (max d.k0 d.k1, giveN T n)) else none
def remN : Nat → Tb → Nat → Pfx → Option (Nat × Tb)
  | 0, _, _, _ => none
  | f + 1, T, n, p =>
    match T.nds[n]? with
    | none => none
    | some d =>
      if eqP d.p p = true then finR T n { d with v := 0, held := false }
      else
        match remN f T (d.kid (sideB p.addr d.p.len)) p with
        | none => none
        | some (r, T1) => finR T1 n (d.setKid (sideB p.addr d.p.len) r)
theorem run_storeVar_sc {P : Program} (w : World) (b k : Nat) (ty : TypeId) (v old : Value) (hi : (P.info? ty).map (·.size) = some 1) (h1 : v.oneCell' = true) (hv : v.cells = #[v]) (hc : w.cell? ⟨b, k, none⟩ = some old) (hz : w.frozen? ⟨b, k, none⟩ = false) :
    (storeVar ty ⟨b, k, none⟩ v).run P w = .ok () (w.setCell ⟨b, k, none⟩ v) := by
  have := run_storeCells_cells (P := P) b k [v] 0 w (fun j hj => by
    obtain rfl : j = 0 := by simpa using hj
    simp [hc]) (fun j hj => by
    obtain rfl : j = 0 := by simpa using hj
    simpa using hz) (fun u hu => by rw [List.mem_singleton.1 hu]; exact h1)
  cases hq : P.info? ty with
  | none => simp [hq] at hi
  | some i =>
    have hs : i.size = 1 := by simp [hq] at hi; omega
    simp only [Nat.add_zero, World.setCells] at this
    simp [storeVar, sizeOf, typeInfo, hq, hv, hs, this]
section
variable {ops : Array Oper} {rest : List Oper} {o : Oper} {a : Act} {w : World} {Q : Exit → Act → World → Prop}
theorem wpList_store_sc (hgd : o.guard = none) (ty : TypeId) (x y : Operand) (ho : o.op = .store ty x y) (b k : Nat) (v old : Value) (hx : a.eval x = .pointer (some ⟨b, k, none⟩)) (hy : a.eval y = v) (hi : (Try.prog.info? ty).map (·.size) = some 1) (h1 : v.oneCell' = true) (hv : v.cells = #[v])
    (hc : w.cell? ⟨b, k, none⟩ = some old) (hz : w.frozen? ⟨b, k, none⟩ = false)
    (hR : wpList Try.prog ops Q rest (a.put o.dst undef) (w.setCell ⟨b, k, none⟩ v)) : wpList Try.prog ops Q (o :: rest) a w :=
  wpList_plain hgd fun K hK => by
    unfold Oper.wp execOp
    simp only [ho, hx, hy, Instr.storeAt, Instr.sureAddr, Sem.run_bind, Sem.run_pure, Result.andThen_ok, run_storeVar_sc w b k ty v old hi h1 hv hc hz]
    exact hK _ _ hR
end
set_option maxRecDepth 100000 in
set_option maxHeartbeats 8000000 in
theorem rem_eq (T T' : Tb) (n r : Nat) (d : Nd) (p : Pfx) (w : World) (X : Nat → Prop) (g : Nat) (h : TabM w X g T) (hp : p.addr.length = 16) (hd : T.nds[n]? = some d) (he : eqP d.p p = true) (hfin : finR T n { d with v := 0, held := false } = some (r, T')) (hfl : T.free.length ≤ 1000000) :
    Calls Try.prog 57 #[.pointer (some ⟨g, 0, none⟩), .int .i64 (n : Int), p.val] w (LaidT w X g T' r) := by
  unfold LaidT
  obtain ⟨gn, cap, vf, h⟩ := h
  have hn : n < T.nds.length := (List.getElem?_eq_some_iff.1 hd).1
  have fd := h.addr d (List.mem_of_getElem? hd)
  have hcaps := h.caps
  unfold maxLen at hcaps
  have hb : Below w.heap.size w (w.alloc (.cells p.row.toArray 25)) := (Below.refl _ _).alloc (Nat.le_refl _) _
  have h1 := h.up hb
  have c4 := h1.c4
  have R1 := Lib.hid (h1.range n d hd)
  have HZ := Lib.hid (twoB_new w 25 111 p.row d.row)
  have H1 := Lib.hid h
  have HP := Lib.hid hp
  have HD := Lib.hid fd
  have HE := Lib.hid he
  have hsz : (w.alloc (.cells p.row.toArray 25)).heap.size = w.heap.size + 1 := by simp
  rw [show p.val = .agg p.row.toArray from rfl]
  clear h h1 fd hp hb he
  go_enter Try.func57, Try.ntmps57
  go_wp2_with (first
    | (refine wpList_load_any rfl 111 (.tmp 14) rfl gn (n * 22) d.row _ rfl R1.out Try.underlying111 rfl (nd_infoC HD.out) ?_)
    | (refine wpList_store_fresh rfl 111 (.tmp 7) (.tmp 15) rfl d.row _ (w.heap.size + 1) rfl (by simp) rfl (nd_infoC HD.out) (by rw [nd_len HD.out]; rfl) (nd_one d) ?_; refine Hid.out ?_))
  refine Lib.hid ?_
  have hz := HZ.out
  have h2 := H1.out.up hz.2.2
  have hu2 := Upd.of_below X hz.2.2
  clear HZ hsz R1 c4
  generalize (w.alloc (.cells p.row.toArray 25)).alloc (.cells d.row.toArray 111) = W0 at *
  have RI := Lib.hid (rangeAll hz.1)
  have RN := Lib.hid (hz.2.1.range 0 d.p.row nd_pre)
  have HXL := Lib.hid H1.out.low
  have c18 : W0.cell? ⟨w.heap.size + 1, 18, none⟩ = some (.int .i64 d.v) := by rw [hz.2.1.cell]; exact nd_v HD.out
  have z18 : W0.frozen? ⟨w.heap.size + 1, 18, none⟩ = false := hz.2.1.frozen 18
  have c19 : W0.cell? ⟨w.heap.size + 1, 19, none⟩ = some (.bool d.held) := by rw [hz.2.1.cell]; exact nd_held HD.out
  have z19 : W0.frozen? ⟨w.heap.size + 1, 19, none⟩ = false := hz.2.1.frozen 19
  have HZ0 := Lib.hid hz
  have HH2 := Lib.hid h2
  have HU2 := Lib.hid hu2
  have hlt1 : w.heap.size + 1 < W0.heap.size := hz.2.1.lt
  clear hz h2 hu2
  go_wp2_with (first
    | (refine wpList_load_any rfl 25 (.tmp 17) rfl (w.heap.size + 1) 0 d.p.row _ rfl RN.out Try.underlying25 rfl (pf_infoC HD.out) ?_)
    | (refine wpList_load_any rfl 25 (.tmp 5) rfl w.heap.size 0 p.row _ rfl RI.out Try.underlying25 rfl (pf_infoC HP.out) ?_)
    | (refine wpList_eql_pfxB rfl 18 19 _ rfl d.p p HD.out HP.out true HE.out rfl rfl ?_; refine Hid.out ?_))
  refine Lib.hid ?_
  have c19b : (W0.setCell ⟨w.heap.size + 1, 18, none⟩ (.int .i64 0)).cell? ⟨w.heap.size + 1, 19, none⟩ = some (.bool d.held) := by rw [(HZ0.out.2.1.set 18 _).cell, nd_set_v HD.out]; exact nd_held (d := { d with v := 0 }) HD.out
  have z19b : (W0.setCell ⟨w.heap.size + 1, 18, none⟩ (.int .i64 0)).frozen? ⟨w.heap.size + 1, 19, none⟩ = false := by rw [World.frozen?_setCell]; exact z19
  go_wp2_with (refine wpList_store_sc rfl 4 (.tmp 23) _ rfl (w.heap.size + 1) 19 (.bool false) (.bool d.held) rfl rfl (by kernel_rfl) rfl rfl c19b z19b ?_; refine Hid.out ?_)
  refine Lib.hid ?_
  have hzN := HZ0.out.2.1.set 18 (.int .i64 0)
  rw [nd_set_v HD.out] at hzN
  have hzN := hzN.set 19 (.bool false)
  rw [nd_set_held (d := { d with v := 0 }) HD.out] at hzN
  simp only at hzN
  have HDD : Hid (d.p.addr.length = 16) := HD.out
  have hne : ∀ k, X k → k ≠ w.heap.size + 1 := fun k hk e => by have := HXL.out k hk; omega
  have hT1 : TabG ((W0.setCell ⟨w.heap.size + 1, 18, none⟩ (.int .i64 0)).setCell ⟨w.heap.size + 1, 19, none⟩ (.bool false)) X g T gn cap vf := HH2.out.keep (fun k hk => (Below.heap_setCell _ _ _ k (fun e => hne k hk e)).trans (Below.heap_setCell _ _ _ k (fun e => hne k hk e))) (by simp)
  have hU1 : Upd w X ((W0.setCell ⟨w.heap.size + 1, 18, none⟩ (.int .i64 0)).setCell ⟨w.heap.size + 1, 19, none⟩ (.bool false)) X := by
    have hu := HU2.out
    refine ⟨hu.os, hu.tape, hu.output, by simpa using hu.size, fun q hq hx => ((Below.heap_setCell _ _ _ q (fun e => ?_)).trans (Below.heap_setCell _ _ _ q (fun e => ?_))).trans (hu.block q hq hx), hu.sub⟩ <;> (simp only at e; omega)
  have hX1 : ¬ X (w.heap.size + 1) := fun hx => hne _ hx rfl
  clear HZ0 HH2 HU2 RN RI c18 z18 c19 z19 c19b z19b hlt1 hne HE
  generalize (W0.setCell ⟨w.heap.size + 1, 18, none⟩ (.int .i64 0)).setCell ⟨w.heap.size + 1, 19, none⟩ (.bool false) = W at *
  obtain ⟨D, hD⟩ : ∃ D : Nd, D = { d with v := 0, held := false } := ⟨_, rfl⟩
  replace HDD : Hid (D.p.addr.length = 16) := by rw [hD]; exact HDD
  rw [← hD] at hzN hfin
  clear hD
  have c19 : W.cell? ⟨w.heap.size + 1, 19, none⟩ = some (.bool D.held) := by rw [hzN.cell]; exact nd_held HDD.out
  have c20 : W.cell? ⟨w.heap.size + 1, 20, none⟩ = some (.int .i64 (D.k0 : Int)) := by rw [hzN.cell]; exact nd_k0 HDD.out
  have c21 : W.cell? ⟨w.heap.size + 1, 21, none⟩ = some (.int .i64 (D.k1 : Int)) := by rw [hzN.cell]; exact nd_k1 HDD.out
  have HZN := Lib.hid hzN
  have HT1 := Lib.hid hT1
  have HU1 := Lib.hid hU1
  have HX1 := Lib.hid hX1
  have HFIN := Lib.hid hfin
  have hnl : n < T.nds.length := by
    unfold finR at hfin
    by_cases hh : n < T.nds.length
    · exact hh
    · rw [if_neg hh] at hfin; cases hfin
  clear hzN hT1 hU1 hX1 hfin
  have keep : ∀ hkeep : D.held = true ∨ (D.k0 ≠ 0 ∧ D.k1 ≠ 0), r = n ∧ T' = { T with nds := T.nds.set n D } := by
    intro hkeep
    have := HFIN.out
    unfold finR at this
    rw [if_pos hnl, if_pos hkeep] at this
    cases this
    exact ⟨rfl, rfl⟩
  have gone : ∀ hno : ¬ (D.held = true ∨ (D.k0 ≠ 0 ∧ D.k1 ≠ 0)), r = max D.k0 D.k1 ∧ T' = giveN T n := by
    intro hno
    have := HFIN.out
    unfold finR at this
    rw [if_pos hnl, if_neg hno] at this
    cases this
    exact ⟨rfl, rfl⟩
  have KEEP := Lib.hid keep
  have GONE := Lib.hid gone
  clear keep gone HFIN
  by_cases hh : D.held = true
  · rw [hh] at c19
    obtain ⟨rfl, rfl⟩ := KEEP.out (.inl hh)
    clear KEEP GONE
    go_wp2
    refine wp_region_noPanic ?_
    refine wp_region_held_drew (S := HeldT g (.slice (some ⟨gn, 0, none⟩) T.nds.length cap) (w.heap.size + 1) 111 D.row) (by kernel_rfl) ⟨HT1.out.c4, HZN.out⟩ (fun hHeld => ?_)
    have h2 := HT1.out
    have hu2 := HU1.out
    have h3 : TabG W.drew X g T gn cap vf := ⟨h2.box, h2.nds, h2.free, h2.addr, h2.inG, h2.inN, h2.inF, h2.low⟩
    have hu3 : Upd w X W.drew X := ⟨hu2.os, hu2.tape, hu2.output, hu2.size, hu2.block, hu2.sub⟩
    have hcaps1 := h2.caps
    unfold maxLen at hcaps1
    have hgx : ¬ (w.heap.size + 1 = gn) := fun e => HX1.out (by rw [e]; exact h3.inN)
    clear h2 hu2 c19 c20 c21 HT1 HU1 HZN
    generalize W.drew = W2 at *
    refine held_take (v := ?v159) 0 rfl (by kernel_rfl) (by kernel_rfl) (by kernel_rfl) (fun _ _ _ h => h) (by rfl) ?y159 (by assumption) ?_
    case y159 => (intro w hSw; unfold HeldT at hSw; go_simp; (try with_reducible rfl); (try omega))
    simp only [List.setIfInBounds_toArray, List.set_cons_zero, List.set_cons_succ]
    refine held_take (v := ?v162) 1 rfl (by kernel_rfl) (by kernel_rfl) (by kernel_rfl) (fun _ _ _ h => h) (by rfl) ?y162 (by assumption) ?_
    case y162 => (intro w hSw; unfold HeldT at hSw; go_simp; (try with_reducible rfl); (try omega))
    simp only [List.setIfInBounds_toArray, List.set_cons_zero, List.set_cons_succ]
    refine held_take (v := ?v165) 2 rfl (by kernel_rfl) (by kernel_rfl) (by kernel_rfl) (fun _ _ _ h => h) (by rfl) ?y165 (by assumption) ?_
    case y165 => (intro w hSw; unfold HeldT at hSw; go_simp; (try with_reducible rfl); (try omega))
    simp only [List.setIfInBounds_toArray, List.set_cons_zero, List.set_cons_succ]
    refine held_take (v := ?v168) 3 rfl (by kernel_rfl) (by kernel_rfl) (by kernel_rfl) (fun _ _ _ h => h) (by rfl) ?y168 (by assumption) ?_
    case y168 => (intro w hSw; unfold HeldT at hSw; go_simp; (try with_reducible rfl); (try omega))
    simp only [List.setIfInBounds_toArray, List.set_cons_zero, List.set_cons_succ]
    refine held_take (v := ?v171) 4 rfl (by kernel_rfl) (by kernel_rfl) (by kernel_rfl) (fun _ _ _ h => h) (by rfl) ?y171 (by assumption) ?_
    case y171 => (intro w hSw; unfold HeldT at hSw; go_simp; (try with_reducible rfl); (try omega))
    simp only [List.setIfInBounds_toArray, List.set_cons_zero, List.set_cons_succ]
    refine held_take (v := D.val) 5 rfl (by kernel_rfl) (by kernel_rfl) (by kernel_rfl) (fun _ _ _ h => h) (by rfl) (fun W hSw => exec_load_any _ (.tmp 7) rfl (w.heap.size + 1) 0 D.row _ rfl (rangeAll hSw.2) Try.underlying111 rfl (nd_infoC HDD.out)) (by assumption) ?_
    simp only [List.setIfInBounds_toArray, List.set_cons_zero, List.set_cons_succ]
    refine held_take (v := ?v176) 6 rfl (by kernel_rfl) (by kernel_rfl) (by kernel_rfl) (fun _ _ _ h => h) (by rfl) ?y176 (by assumption) ?_
    case y176 => (intro w hSw; unfold HeldT at hSw; go_simp; (try with_reducible rfl); (try omega))
    simp only [List.setIfInBounds_toArray, List.set_cons_zero, List.set_cons_succ]
    refine held_none 7 rfl (by kernel_rfl) (by rfl) (fun K hK => ?_)
    refine wp_store_mid 111 (.tmp 57) (.tmp 56) rfl gn (r * 22) D.row.toArray rfl rfl ?_ (by simpa using nd_infoC HDD.out) (all_oneCell_toArray (nd_one D)) ?_
    · obtain ⟨d0, hd0⟩ : ∃ d0, T.nds[r]? = some d0 := ⟨_, List.getElem?_eq_getElem hnl⟩
      exact h3.there r d0 hd0 _ (by simp [nd_len HDD.out])
    · have h4 := h3.setNode r hnl D HDD.out
      have hu4 := hu3.trans (Upd.setCells gn h3.inN D.row W2 (r * 22))
      refine hK.out _ _ ⟨h4.c4.trans (by simp), hHeld.2.upd (Upd.setCells (X := fun k => k = gn) gn rfl D.row W2 (r * 22)) hgx⟩ (fun _ => ?_)
      clear hK K
      refine wpAnyH_done (by kernel_rfl) ?_ _
      refine NoPanic.normal ?_
      go_wp2
      go_ret
      exact ⟨rfl, X, ⟨gn, cap, _, h4⟩, hu4⟩
  · have hh : D.held = false := by simpa using hh
    rw [hh] at c19
    by_cases k0 : D.k0 = 0
    · obtain ⟨rfl, rfl⟩ := GONE.out (by rw [hh]; simp [k0])
      rw [k0] at c20
      clear KEEP GONE
      have HG := Lib.hid (fun W X (h : TabM W X g T) => give_any T n W X g h hnl hfl)
      go_wp2_with (go_at_call 69; refine (HG.out _ _ ⟨_, _, _, HT1.out⟩).mono ?_; rintro e w5 ⟨⟨v5, rfl⟩, X5, h5, hu5⟩; refine Hid.out ?_)
      refine Lib.hid ?_
      have hz5 := HZN.out.upd hu5 HX1.out
      have c20 : w5.cell? ⟨w.heap.size + 1, 20, none⟩ = some (.int .i64 (D.k0 : Int)) := by rw [hz5.cell]; exact nd_k0 HDD.out
      have c21 : w5.cell? ⟨w.heap.size + 1, 21, none⟩ = some (.int .i64 (D.k1 : Int)) := by rw [hz5.cell]; exact nd_k1 HDD.out
      have HR5 := Lib.hid (⟨h5, HU1.out.trans hu5⟩ : _ ∧ _)
      clear h5 hu5 hz5
      go_wp2
      all_goals (go_ret; refine ⟨?_, X5, HR5.out.1, HR5.out.2⟩; refine congrArg Ending.returned (congrArg (Value.int .i64) (?_ : (_ : Int) = _)); omega)
    · by_cases k1 : D.k1 = 0
      · obtain ⟨rfl, rfl⟩ := GONE.out (by rw [hh]; simp [k1])
        rw [k1] at c21
        clear KEEP GONE
        have HG := Lib.hid (fun W X (h : TabM W X g T) => give_any T n W X g h hnl hfl)
        go_wp2_with (go_at_call 69; refine (HG.out _ _ ⟨_, _, _, HT1.out⟩).mono ?_; rintro e w5 ⟨⟨v5, rfl⟩, X5, h5, hu5⟩; refine Hid.out ?_)
        refine Lib.hid ?_
        have hz5 := HZN.out.upd hu5 HX1.out
        have c20 : w5.cell? ⟨w.heap.size + 1, 20, none⟩ = some (.int .i64 (D.k0 : Int)) := by rw [hz5.cell]; exact nd_k0 HDD.out
        have c21 : w5.cell? ⟨w.heap.size + 1, 21, none⟩ = some (.int .i64 (D.k1 : Int)) := by rw [hz5.cell]; exact nd_k1 HDD.out
        have HR5 := Lib.hid (⟨h5, HU1.out.trans hu5⟩ : _ ∧ _)
        clear h5 hu5 hz5
        go_wp2
        all_goals (go_ret; refine ⟨?_, X5, HR5.out.1, HR5.out.2⟩; refine congrArg Ending.returned (congrArg (Value.int .i64) (?_ : (_ : Int) = _)); omega)
      · obtain ⟨rfl, rfl⟩ := KEEP.out (.inr ⟨k0, k1⟩)
        clear KEEP GONE
        have i0 : (D.k0 : Int) ≠ 0 := by omega
        have i1 : (D.k1 : Int) ≠ 0 := by omega
        have j0 : ((D.k0 : Int) == 0) = false := by simpa using i0
        have j1 : ((D.k1 : Int) == 0) = false := by simpa using i1
        have l0 : ((D.k0 : Int) != 0) = true := by simpa using i0
        have l1 : ((D.k1 : Int) != 0) = true := by simpa using i1
        go_wp2
        refine wp_region_noPanic ?_
        refine wp_region_held_drew (S := HeldT g (.slice (some ⟨gn, 0, none⟩) T.nds.length cap) (w.heap.size + 1) 111 D.row) (by kernel_rfl) ⟨HT1.out.c4, HZN.out⟩ (fun hHeld => ?_)
        have h2 := HT1.out
        have hu2 := HU1.out
        have h3 : TabG W.drew X g T gn cap vf := ⟨h2.box, h2.nds, h2.free, h2.addr, h2.inG, h2.inN, h2.inF, h2.low⟩
        have hu3 : Upd w X W.drew X := ⟨hu2.os, hu2.tape, hu2.output, hu2.size, hu2.block, hu2.sub⟩
        have hcaps1 := h2.caps
        unfold maxLen at hcaps1
        have hgx : ¬ (w.heap.size + 1 = gn) := fun e => HX1.out (by rw [e]; exact h3.inN)
        clear h2 hu2 c19 c20 c21 HT1 HU1 HZN
        generalize W.drew = W2 at *
        refine held_take (v := ?v242) 0 rfl (by kernel_rfl) (by kernel_rfl) (by kernel_rfl) (fun _ _ _ h => h) (by rfl) ?y242 (by assumption) ?_
        case y242 => (intro w hSw; unfold HeldT at hSw; go_simp; (try with_reducible rfl); (try omega))
        simp only [List.setIfInBounds_toArray, List.set_cons_zero, List.set_cons_succ]
        refine held_take (v := ?v245) 1 rfl (by kernel_rfl) (by kernel_rfl) (by kernel_rfl) (fun _ _ _ h => h) (by rfl) ?y245 (by assumption) ?_
        case y245 => (intro w hSw; unfold HeldT at hSw; go_simp; (try with_reducible rfl); (try omega))
        simp only [List.setIfInBounds_toArray, List.set_cons_zero, List.set_cons_succ]
        refine held_take (v := ?v248) 2 rfl (by kernel_rfl) (by kernel_rfl) (by kernel_rfl) (fun _ _ _ h => h) (by rfl) ?y248 (by assumption) ?_
        case y248 => (intro w hSw; unfold HeldT at hSw; go_simp; (try with_reducible rfl); (try omega))
        simp only [List.setIfInBounds_toArray, List.set_cons_zero, List.set_cons_succ]
        refine held_take (v := ?v251) 3 rfl (by kernel_rfl) (by kernel_rfl) (by kernel_rfl) (fun _ _ _ h => h) (by rfl) ?y251 (by assumption) ?_
        case y251 => (intro w hSw; unfold HeldT at hSw; go_simp; (try with_reducible rfl); (try omega))
        simp only [List.setIfInBounds_toArray, List.set_cons_zero, List.set_cons_succ]
        refine held_take (v := ?v254) 4 rfl (by kernel_rfl) (by kernel_rfl) (by kernel_rfl) (fun _ _ _ h => h) (by rfl) ?y254 (by assumption) ?_
        case y254 => (intro w hSw; unfold HeldT at hSw; go_simp; (try with_reducible rfl); (try omega))
        simp only [List.setIfInBounds_toArray, List.set_cons_zero, List.set_cons_succ]
        refine held_take (v := D.val) 5 rfl (by kernel_rfl) (by kernel_rfl) (by kernel_rfl) (fun _ _ _ h => h) (by rfl) (fun W hSw => exec_load_any _ (.tmp 7) rfl (w.heap.size + 1) 0 D.row _ rfl (rangeAll hSw.2) Try.underlying111 rfl (nd_infoC HDD.out)) (by assumption) ?_
        simp only [List.setIfInBounds_toArray, List.set_cons_zero, List.set_cons_succ]
        refine held_take (v := ?v259) 6 rfl (by kernel_rfl) (by kernel_rfl) (by kernel_rfl) (fun _ _ _ h => h) (by rfl) ?y259 (by assumption) ?_
        case y259 => (intro w hSw; unfold HeldT at hSw; go_simp; (try with_reducible rfl); (try omega))
        simp only [List.setIfInBounds_toArray, List.set_cons_zero, List.set_cons_succ]
        refine held_none 7 rfl (by kernel_rfl) (by rfl) (fun K hK => ?_)
        refine wp_store_mid 111 (.tmp 57) (.tmp 56) rfl gn (r * 22) D.row.toArray rfl rfl ?_ (by simpa using nd_infoC HDD.out) (all_oneCell_toArray (nd_one D)) ?_
        · obtain ⟨d0, hd0⟩ : ∃ d0, T.nds[r]? = some d0 := ⟨_, List.getElem?_eq_getElem hnl⟩
          exact h3.there r d0 hd0 _ (by simp [nd_len HDD.out])
        · have h4 := h3.setNode r hnl D HDD.out
          have hu4 := hu3.trans (Upd.setCells gn h3.inN D.row W2 (r * 22))
          refine hK.out _ _ ⟨h4.c4.trans (by simp), hHeld.2.upd (Upd.setCells (X := fun k => k = gn) gn rfl D.row W2 (r * 22)) hgx⟩ (fun _ => ?_)
          clear hK K
          refine wpAnyH_done (by kernel_rfl) ?_ _
          refine NoPanic.normal ?_
          go_wp2
          go_ret
          exact ⟨rfl, X, ⟨gn, cap, _, h4⟩, hu4⟩
end Go.Proofs.Ytgimcapcnidjjaa
namespace Go.Proofs.Ytgimcapcnidjjaa
open Go Go.RowKit

def HeldR (b : Nat) (t : TypeId) (l : List Value) (W : World) : Prop := Bx W b t l
set_option maxRecDepth 100000 in
set_option maxHeartbeats 8000000 in
theorem rem_rec (T T1 T' : Tb) (n r1 r : Nat) (d : Nd) (p : Pfx) (w : World) (X : Nat → Prop) (g : Nat) (h : TabM w X g T) (hp : p.addr.length = 16) (hd : T.nds[n]? = some d) (he : eqP d.p p = false)
    (hrec : ∀ W X, TabM W X g T → Calls Try.prog 57 #[.pointer (some ⟨g, 0, none⟩), .int .i64 ((d.kid (sideB p.addr d.p.len) : Nat) : Int), p.val] W (LaidT W X g T1 r1))
    (hfin : finR T1 n (d.setKid (sideB p.addr d.p.len) r1) = some (r, T')) (hfl : T1.free.length ≤ 1000000) :
    Calls Try.prog 57 #[.pointer (some ⟨g, 0, none⟩), .int .i64 (n : Int), p.val] w (LaidT w X g T' r) := by
  unfold LaidT at hrec
  unfold LaidT
  obtain ⟨gn, cap, vf, h⟩ := h
  have hn : n < T.nds.length := (List.getElem?_eq_some_iff.1 hd).1
  have fd := h.addr d (List.mem_of_getElem? hd)
  have hcaps := h.caps
  unfold maxLen at hcaps
  have hb : Below w.heap.size w (w.alloc (.cells p.row.toArray 25)) := (Below.refl _ _).alloc (Nat.le_refl _) _
  have h1 := h.up hb
  have c4 := h1.c4
  have R1 := Lib.hid (h1.range n d hd)
  have HZ := Lib.hid (twoB_new w 25 111 p.row d.row)
  have H1 := Lib.hid h
  have HP := Lib.hid hp
  have HD := Lib.hid fd
  have HE := Lib.hid he
  have hsz : (w.alloc (.cells p.row.toArray 25)).heap.size = w.heap.size + 1 := by simp
  have HS := Lib.hid (fun W => side_any d p W fd hp)
  have HR := Lib.hid hrec
  generalize sideB p.addr d.p.len = s at *
  obtain ⟨k, hk⟩ : ∃ k : Nat, k = if s then 1 else 0 := ⟨_, rfl⟩
  rw [show (if s = true then (1 : Int) else 0) = (k : Int) by rw [hk]; cases s <;> rfl] at HS
  have hk2 : k < 2 := by rw [hk]; cases s <;> decide
  have HK := Lib.hid hk
  have hk3 : (k : Int) < 2 := by omega
  clear hrec hk
  rw [show p.val = .agg p.row.toArray from rfl]
  clear h h1 fd hp hb he
  go_enter Try.func57, Try.ntmps57
  go_wp2_with (first
    | (refine wpList_load_any rfl 111 (.tmp 14) rfl gn (n * 22) d.row _ rfl R1.out Try.underlying111 rfl (nd_infoC HD.out) ?_)
    | (refine wpList_store_fresh rfl 111 (.tmp 7) (.tmp 15) rfl d.row _ (w.heap.size + 1) rfl (by simp) rfl (nd_infoC HD.out) (by rw [nd_len HD.out]; rfl) (nd_one d) ?_; refine Hid.out ?_))
  refine Lib.hid ?_
  have hz := HZ.out
  have h2 := H1.out.up hz.2.2
  have hu2 := Upd.of_below X hz.2.2
  clear HZ hsz R1 c4
  generalize (w.alloc (.cells p.row.toArray 25)).alloc (.cells d.row.toArray 111) = W0 at *
  have RI := Lib.hid (rangeAll hz.1)
  have RN := Lib.hid (hz.2.1.range 0 d.p.row nd_pre)
  have HXL := Lib.hid H1.out.low
  have RNN := Lib.hid (rangeAll hz.2.1)
  go_wp2_with (first
    | (refine wpList_load_any rfl 25 (.tmp 17) rfl (w.heap.size + 1) 0 d.p.row _ rfl RN.out Try.underlying25 rfl (pf_infoC HD.out) ?_)
    | (refine wpList_load_any rfl 25 (.tmp 5) rfl w.heap.size 0 p.row _ rfl RI.out Try.underlying25 rfl (pf_infoC HP.out) ?_)
    | (refine wpList_eql_pfxB rfl 18 19 _ rfl d.p p HD.out HP.out false HE.out rfl rfl ?_)
    | (refine wpList_load_any rfl 111 (.tmp 7) rfl (w.heap.size + 1) 0 d.row _ rfl RNN.out Try.underlying111 rfl (nd_infoC HD.out) ?_)
    | (go_at_call 66; refine (HS.out _).mono ?_; rintro e w2 ⟨rfl, b2⟩; refine Hid.out ?_))
  refine Lib.hid ?_
  have hz2 := hz.up b2
  have h4 := h2.up b2
  have hu4 := hu2.trans (Upd.of_below X b2)
  clear hz h2 hu2 RI RN RNN b2
  go_wp2
  refine wp_region_noPanic ?_
  refine wp_region_held_drew (S := HeldR w.heap.size 25 p.row) (by kernel_rfl) hz2.1 (fun hHeld => ?_)
  have h5 : TabG w2.drew X g T gn cap vf := ⟨h4.box, h4.nds, h4.free, h4.addr, h4.inG, h4.inN, h4.inF, h4.low⟩
  have hu5 : Upd w X w2.drew X := ⟨hu4.os, hu4.tape, hu4.output, hu4.size, hu4.block, hu4.sub⟩
  have hzN5 : Bx w2.drew (w.heap.size + 1) 111 d.row := hz2.2.1
  clear h4 hu4 hz2
  generalize w2.drew = W2 at *
  have hkc := kid_cell HD.out hzN5 s k HK.out
  refine held_take (v := ?v348) 0 rfl (by kernel_rfl) (by kernel_rfl) (by kernel_rfl) (fun _ _ _ h => h) (by rfl) ?y348 (by assumption) ?_
  case y348 => (intro w hSw; unfold HeldR at hSw; go_simp; (try with_reducible rfl); (try omega))
  simp only [List.setIfInBounds_toArray, List.set_cons_zero, List.set_cons_succ]
  refine held_take (v := ?v351) 1 rfl (by kernel_rfl) (by kernel_rfl) (by kernel_rfl) (fun _ _ _ h => h) (by rfl) ?y351 (by assumption) ?_
  case y351 => (intro w hSw; unfold HeldR at hSw; go_simp; (try with_reducible rfl); (try omega))
  simp only [List.setIfInBounds_toArray, List.set_cons_zero, List.set_cons_succ]
  refine held_take (v := ?v354) 2 rfl (by kernel_rfl) (by kernel_rfl) (by kernel_rfl) (fun _ _ _ h => h) (by rfl) ?y354 (by assumption) ?_
  case y354 => (intro w hSw; unfold HeldR at hSw; go_simp; (try with_reducible rfl); (try omega))
  simp only [List.setIfInBounds_toArray, List.set_cons_zero, List.set_cons_succ]
  refine held_take (v := ?v357) 3 rfl (by kernel_rfl) (by kernel_rfl) (by kernel_rfl) (fun _ _ _ h => h) (by rfl) ?y357 (by assumption) ?_
  case y357 => (intro w hSw; unfold HeldR at hSw; go_simp; (try with_reducible rfl); (try omega))
  simp only [List.setIfInBounds_toArray, List.set_cons_zero, List.set_cons_succ]
  refine held_take (v := ?v360) 4 rfl (by kernel_rfl) (by kernel_rfl) (by kernel_rfl) (fun _ _ _ h => h) (by rfl) ?y360 (by assumption) ?_
  case y360 => (intro w hSw; unfold HeldR at hSw; go_simp; (try with_reducible rfl); (try omega))
  simp only [List.setIfInBounds_toArray, List.set_cons_zero, List.set_cons_succ]
  refine held_take (v := ?v363) 8 rfl (by kernel_rfl) (by kernel_rfl) (by kernel_rfl) (fun _ _ _ h => h) (by rfl) ?y363 (by assumption) ?_
  case y363 => (intro w hSw; unfold HeldR at hSw; go_simp; (try with_reducible rfl); (try omega))
  simp only [List.setIfInBounds_toArray, List.set_cons_zero, List.set_cons_succ]
  refine held_take (v := p.val) 6 rfl (by kernel_rfl) (by kernel_rfl) (by kernel_rfl) (fun _ _ _ h => h) (by rfl) (fun W hSw => exec_load_any _ (.tmp 5) rfl w.heap.size 0 p.row _ rfl (rangeAll hSw) Try.underlying25 rfl (pf_infoC HP.out)) (by assumption) ?_
  simp only [List.setIfInBounds_toArray, List.set_cons_zero, List.set_cons_succ]
  refine held_one 5 rfl (by kernel_rfl) (by rfl) (fun K hK => ?_)
  go_simp
  refine hK.out _ _ hHeld (fun _ => ?_)
  clear hK K
  (try simp only [List.setIfInBounds_toArray, List.set_cons_zero, List.set_cons_succ])
  refine held_one 7 rfl (by kernel_rfl) (by rfl) (fun K hK => ?_)
  go_simp
  refine (HR.out _ X ⟨_, _, _, h5⟩).mono ?_
  rintro e w3 ⟨rfl, X1, ⟨gn1, cap1, vf1, h6⟩, hu6⟩
  have hX0 : ¬ X w.heap.size ∧ ¬ X (w.heap.size + 1) := by
    constructor <;> (intro hx; have := HXL.out _ hx; omega)
  have hH6 : HeldR w.heap.size 25 p.row w3 := Bx.upd hHeld hu6 hX0.1
  have hzN6 := hzN5.upd hu6 hX0.2
  have hX1 : ¬ X1 (w.heap.size + 1) := by
    intro hx
    have := hzN5.lt
    have := (hu6.sub _ hx).imp_left (HXL.out _)
    omega
  refine hK.out _ _ hH6 (fun _ => ?_)
  clear hK K hkc
  refine held_take (v := ?v388) 9 rfl (by kernel_rfl) (by kernel_rfl) (by kernel_rfl) (fun _ _ _ h => h) (by rfl) ?y388 (by assumption) ?_
  case y388 => (intro w hSw; unfold HeldR at hSw; go_simp; (try with_reducible rfl); (try omega))
  simp only [List.setIfInBounds_toArray, List.set_cons_zero, List.set_cons_succ]
  have hkc := kid_cell HD.out hzN6 s k HK.out
  have hkz : w3.frozen? ⟨w.heap.size + 1, 20 + k, none⟩ = false := hzN6.frozen _
  have hzN := hzN6.set (20 + k) (.int .i64 (r1 : Int))
  rw [HK.out, nd_set_kid HD.out s r1, ← HK.out] at hzN
  have hne : ∀ k, X1 k → k ≠ w.heap.size + 1 := fun k hk e => hX1 (by rw [← e]; exact hk)
  have hT1 : TabG (w3.setCell ⟨w.heap.size + 1, 20 + k, none⟩ (.int .i64 (r1 : Int))) X1 g T1 gn1 cap1 vf1 := h6.keep (fun q hq => Below.heap_setCell _ _ _ q (fun e => hne q hq e)) (by simp)
  have hU1 : Upd w X (w3.setCell ⟨w.heap.size + 1, 20 + k, none⟩ (.int .i64 (r1 : Int))) X1 := by
    have hu := hu5.trans hu6
    refine ⟨hu.os, hu.tape, hu.output, by simpa using hu.size, fun q hq hx => (Below.heap_setCell _ _ _ q (fun e => ?_)).trans (hu.block q hq hx), hu.sub⟩
    simp only at e
    omega
  have hH7 : HeldR w.heap.size 25 p.row (w3.setCell ⟨w.heap.size + 1, 20 + k, none⟩ (.int .i64 (r1 : Int))) := Bx.setOther hH6 (by omega) _ _
  refine held_none 10 rfl (by kernel_rfl) (by rfl) (fun K hK => ?_)
  go_simp
  refine hK.out _ _ hH7 (fun _ => ?_)
  clear hK K hkc hkz
  refine wpAnyH_done (by kernel_rfl) ?_ _
  refine NoPanic.normal ?_
  clear hzN5 hzN6 h5 hu5 h6 hu6 hHeld hH6 hH7 hX0 hne HS HR HE H1
  generalize w3.setCell ⟨w.heap.size + 1, 20 + k, none⟩ (.int .i64 (r1 : Int)) = W at *
  obtain ⟨D, hD⟩ : ∃ D : Nd, D = d.setKid s r1 := ⟨_, rfl⟩
  have HDD : Hid (D.p.addr.length = 16) := by rw [hD, setKid_len]; exact HD
  rw [← hD] at hzN hfin
  clear hD
  have c19 : W.cell? ⟨w.heap.size + 1, 19, none⟩ = some (.bool D.held) := by rw [hzN.cell]; exact nd_held HDD.out
  have c20 : W.cell? ⟨w.heap.size + 1, 20, none⟩ = some (.int .i64 (D.k0 : Int)) := by rw [hzN.cell]; exact nd_k0 HDD.out
  have c21 : W.cell? ⟨w.heap.size + 1, 21, none⟩ = some (.int .i64 (D.k1 : Int)) := by rw [hzN.cell]; exact nd_k1 HDD.out
  have HZN := Lib.hid hzN
  have HT1 := Lib.hid hT1
  have HU1 := Lib.hid hU1
  have HX1 := Lib.hid hX1
  have HFIN := Lib.hid hfin
  have hnl : n < T1.nds.length := by
    unfold finR at hfin
    by_cases hh : n < T1.nds.length
    · exact hh
    · rw [if_neg hh] at hfin; cases hfin
  clear hzN hT1 hU1 hX1 hfin
  have keep : ∀ hkeep : D.held = true ∨ (D.k0 ≠ 0 ∧ D.k1 ≠ 0), r = n ∧ T' = { T1 with nds := T1.nds.set n D } := by
    intro hkeep
    have := HFIN.out
    unfold finR at this
    rw [if_pos hnl, if_pos hkeep] at this
    cases this
    exact ⟨rfl, rfl⟩
  have gone : ∀ hno : ¬ (D.held = true ∨ (D.k0 ≠ 0 ∧ D.k1 ≠ 0)), r = max D.k0 D.k1 ∧ T' = giveN T1 n := by
    intro hno
    have := HFIN.out
    unfold finR at this
    rw [if_pos hnl, if_neg hno] at this
    cases this
    exact ⟨rfl, rfl⟩
  have KEEP := Lib.hid keep
  have GONE := Lib.hid gone
  clear keep gone HFIN
  by_cases hh : D.held = true
  · rw [hh] at c19
    obtain ⟨rfl, rfl⟩ := KEEP.out (.inl hh)
    clear KEEP GONE
    go_wp2
    refine wp_region_noPanic ?_
    refine wp_region_held_drew (S := HeldT g (.slice (some ⟨gn1, 0, none⟩) T1.nds.length cap1) (w.heap.size + 1) 111 D.row) (by kernel_rfl) ⟨HT1.out.c4, HZN.out⟩ (fun hHeld => ?_)
    have h2 := HT1.out
    have hu2 := HU1.out
    have h3 : TabG W.drew X1 g T1 gn1 cap1 vf1 := ⟨h2.box, h2.nds, h2.free, h2.addr, h2.inG, h2.inN, h2.inF, h2.low⟩
    have hu3 : Upd w X W.drew X1 := ⟨hu2.os, hu2.tape, hu2.output, hu2.size, hu2.block, hu2.sub⟩
    have hcaps1 := h2.caps
    unfold maxLen at hcaps1
    have hgx : ¬ (w.heap.size + 1 = gn1) := fun e => HX1.out (by rw [e]; exact h3.inN)
    clear h2 hu2 c19 c20 c21 HT1 HU1 HZN
    generalize W.drew = W2 at *
    refine held_take (v := ?v462) 0 rfl (by kernel_rfl) (by kernel_rfl) (by kernel_rfl) (fun _ _ _ h => h) (by rfl) ?y462 (by assumption) ?_
    case y462 => (intro w hSw; unfold HeldT at hSw; go_simp; (try with_reducible rfl); (try omega))
    simp only [List.setIfInBounds_toArray, List.set_cons_zero, List.set_cons_succ]
    refine held_take (v := ?v465) 1 rfl (by kernel_rfl) (by kernel_rfl) (by kernel_rfl) (fun _ _ _ h => h) (by rfl) ?y465 (by assumption) ?_
    case y465 => (intro w hSw; unfold HeldT at hSw; go_simp; (try with_reducible rfl); (try omega))
    simp only [List.setIfInBounds_toArray, List.set_cons_zero, List.set_cons_succ]
    refine held_take (v := ?v468) 2 rfl (by kernel_rfl) (by kernel_rfl) (by kernel_rfl) (fun _ _ _ h => h) (by rfl) ?y468 (by assumption) ?_
    case y468 => (intro w hSw; unfold HeldT at hSw; go_simp; (try with_reducible rfl); (try omega))
    simp only [List.setIfInBounds_toArray, List.set_cons_zero, List.set_cons_succ]
    refine held_take (v := ?v471) 3 rfl (by kernel_rfl) (by kernel_rfl) (by kernel_rfl) (fun _ _ _ h => h) (by rfl) ?y471 (by assumption) ?_
    case y471 => (intro w hSw; unfold HeldT at hSw; go_simp; (try with_reducible rfl); (try omega))
    simp only [List.setIfInBounds_toArray, List.set_cons_zero, List.set_cons_succ]
    refine held_take (v := ?v474) 4 rfl (by kernel_rfl) (by kernel_rfl) (by kernel_rfl) (fun _ _ _ h => h) (by rfl) ?y474 (by assumption) ?_
    case y474 => (intro w hSw; unfold HeldT at hSw; go_simp; (try with_reducible rfl); (try omega))
    simp only [List.setIfInBounds_toArray, List.set_cons_zero, List.set_cons_succ]
    refine held_take (v := D.val) 5 rfl (by kernel_rfl) (by kernel_rfl) (by kernel_rfl) (fun _ _ _ h => h) (by rfl) (fun W hSw => exec_load_any _ (.tmp 7) rfl (w.heap.size + 1) 0 D.row _ rfl (rangeAll hSw.2) Try.underlying111 rfl (nd_infoC HDD.out)) (by assumption) ?_
    simp only [List.setIfInBounds_toArray, List.set_cons_zero, List.set_cons_succ]
    refine held_take (v := ?v479) 6 rfl (by kernel_rfl) (by kernel_rfl) (by kernel_rfl) (fun _ _ _ h => h) (by rfl) ?y479 (by assumption) ?_
    case y479 => (intro w hSw; unfold HeldT at hSw; go_simp; (try with_reducible rfl); (try omega))
    simp only [List.setIfInBounds_toArray, List.set_cons_zero, List.set_cons_succ]
    refine held_none 7 rfl (by kernel_rfl) (by rfl) (fun K hK => ?_)
    refine wp_store_mid 111 (.tmp 57) (.tmp 56) rfl gn1 (r * 22) D.row.toArray rfl rfl ?_ (by simpa using nd_infoC HDD.out) (all_oneCell_toArray (nd_one D)) ?_
    · obtain ⟨d0, hd0⟩ : ∃ d0, T1.nds[r]? = some d0 := ⟨_, List.getElem?_eq_getElem hnl⟩
      exact h3.there r d0 hd0 _ (by simp [nd_len HDD.out])
    · have h4 := h3.setNode r hnl D HDD.out
      have hu4 := hu3.trans (Upd.setCells gn1 h3.inN D.row W2 (r * 22))
      refine hK.out _ _ ⟨h4.c4.trans (by simp), hHeld.2.upd (Upd.setCells (X := fun k => k = gn1) gn1 rfl D.row W2 (r * 22)) hgx⟩ (fun _ => ?_)
      clear hK K
      refine wpAnyH_done (by kernel_rfl) ?_ _
      refine NoPanic.normal ?_
      go_wp2
      go_ret
      exact ⟨rfl, X1, ⟨gn1, cap1, _, h4⟩, hu4⟩
  · have hh : D.held = false := by simpa using hh
    rw [hh] at c19
    by_cases k0 : D.k0 = 0
    · obtain ⟨rfl, rfl⟩ := GONE.out (by rw [hh]; simp [k0])
      rw [k0] at c20
      clear KEEP GONE
      have HG := Lib.hid (fun W X (h : TabM W X g T1) => give_any T1 n W X g h hnl hfl)
      go_wp2_with (go_at_call 69; refine (HG.out _ _ ⟨_, _, _, HT1.out⟩).mono ?_; rintro e w5 ⟨⟨v5, rfl⟩, X5, h5, hu5⟩; refine Hid.out ?_)
      refine Lib.hid ?_
      have hz5 := HZN.out.upd hu5 HX1.out
      have c20 : w5.cell? ⟨w.heap.size + 1, 20, none⟩ = some (.int .i64 (D.k0 : Int)) := by rw [hz5.cell]; exact nd_k0 HDD.out
      have c21 : w5.cell? ⟨w.heap.size + 1, 21, none⟩ = some (.int .i64 (D.k1 : Int)) := by rw [hz5.cell]; exact nd_k1 HDD.out
      have HR5 := Lib.hid (⟨h5, HU1.out.trans hu5⟩ : _ ∧ _)
      clear h5 hu5 hz5
      go_wp2
      all_goals (go_ret; refine ⟨?_, X5, HR5.out.1, HR5.out.2⟩; refine congrArg Ending.returned (congrArg (Value.int .i64) (?_ : (_ : Int) = _)); omega)
    · by_cases k1 : D.k1 = 0
      · obtain ⟨rfl, rfl⟩ := GONE.out (by rw [hh]; simp [k1])
        rw [k1] at c21
        clear KEEP GONE
        have HG := Lib.hid (fun W X (h : TabM W X g T1) => give_any T1 n W X g h hnl hfl)
        go_wp2_with (go_at_call 69; refine (HG.out _ _ ⟨_, _, _, HT1.out⟩).mono ?_; rintro e w5 ⟨⟨v5, rfl⟩, X5, h5, hu5⟩; refine Hid.out ?_)
        refine Lib.hid ?_
        have hz5 := HZN.out.upd hu5 HX1.out
        have c20 : w5.cell? ⟨w.heap.size + 1, 20, none⟩ = some (.int .i64 (D.k0 : Int)) := by rw [hz5.cell]; exact nd_k0 HDD.out
        have c21 : w5.cell? ⟨w.heap.size + 1, 21, none⟩ = some (.int .i64 (D.k1 : Int)) := by rw [hz5.cell]; exact nd_k1 HDD.out
        have HR5 := Lib.hid (⟨h5, HU1.out.trans hu5⟩ : _ ∧ _)
        clear h5 hu5 hz5
        go_wp2
        all_goals (go_ret; refine ⟨?_, X5, HR5.out.1, HR5.out.2⟩; refine congrArg Ending.returned (congrArg (Value.int .i64) (?_ : (_ : Int) = _)); omega)
      · obtain ⟨rfl, rfl⟩ := KEEP.out (.inr ⟨k0, k1⟩)
        clear KEEP GONE
        have i0 : (D.k0 : Int) ≠ 0 := by omega
        have i1 : (D.k1 : Int) ≠ 0 := by omega
        have j0 : ((D.k0 : Int) == 0) = false := by simpa using i0
        have j1 : ((D.k1 : Int) == 0) = false := by simpa using i1
        have l0 : ((D.k0 : Int) != 0) = true := by simpa using i0
        have l1 : ((D.k1 : Int) != 0) = true := by simpa using i1
        go_wp2
        refine wp_region_noPanic ?_
        refine wp_region_held_drew (S := HeldT g (.slice (some ⟨gn1, 0, none⟩) T1.nds.length cap1) (w.heap.size + 1) 111 D.row) (by kernel_rfl) ⟨HT1.out.c4, HZN.out⟩ (fun hHeld => ?_)
        have h2 := HT1.out
        have hu2 := HU1.out
        have h3 : TabG W.drew X1 g T1 gn1 cap1 vf1 := ⟨h2.box, h2.nds, h2.free, h2.addr, h2.inG, h2.inN, h2.inF, h2.low⟩
        have hu3 : Upd w X W.drew X1 := ⟨hu2.os, hu2.tape, hu2.output, hu2.size, hu2.block, hu2.sub⟩
        have hcaps1 := h2.caps
        unfold maxLen at hcaps1
        have hgx : ¬ (w.heap.size + 1 = gn1) := fun e => HX1.out (by rw [e]; exact h3.inN)
        clear h2 hu2 c19 c20 c21 HT1 HU1 HZN
        generalize W.drew = W2 at *
        refine held_take (v := ?v545) 0 rfl (by kernel_rfl) (by kernel_rfl) (by kernel_rfl) (fun _ _ _ h => h) (by rfl) ?y545 (by assumption) ?_
        case y545 => (intro w hSw; unfold HeldT at hSw; go_simp; (try with_reducible rfl); (try omega))
        simp only [List.setIfInBounds_toArray, List.set_cons_zero, List.set_cons_succ]
        refine held_take (v := ?v548) 1 rfl (by kernel_rfl) (by kernel_rfl) (by kernel_rfl) (fun _ _ _ h => h) (by rfl) ?y548 (by assumption) ?_
        case y548 => (intro w hSw; unfold HeldT at hSw; go_simp; (try with_reducible rfl); (try omega))
        simp only [List.setIfInBounds_toArray, List.set_cons_zero, List.set_cons_succ]
        refine held_take (v := ?v551) 2 rfl (by kernel_rfl) (by kernel_rfl) (by kernel_rfl) (fun _ _ _ h => h) (by rfl) ?y551 (by assumption) ?_
        case y551 => (intro w hSw; unfold HeldT at hSw; go_simp; (try with_reducible rfl); (try omega))
        simp only [List.setIfInBounds_toArray, List.set_cons_zero, List.set_cons_succ]
        refine held_take (v := ?v554) 3 rfl (by kernel_rfl) (by kernel_rfl) (by kernel_rfl) (fun _ _ _ h => h) (by rfl) ?y554 (by assumption) ?_
        case y554 => (intro w hSw; unfold HeldT at hSw; go_simp; (try with_reducible rfl); (try omega))
        simp only [List.setIfInBounds_toArray, List.set_cons_zero, List.set_cons_succ]
        refine held_take (v := ?v557) 4 rfl (by kernel_rfl) (by kernel_rfl) (by kernel_rfl) (fun _ _ _ h => h) (by rfl) ?y557 (by assumption) ?_
        case y557 => (intro w hSw; unfold HeldT at hSw; go_simp; (try with_reducible rfl); (try omega))
        simp only [List.setIfInBounds_toArray, List.set_cons_zero, List.set_cons_succ]
        refine held_take (v := D.val) 5 rfl (by kernel_rfl) (by kernel_rfl) (by kernel_rfl) (fun _ _ _ h => h) (by rfl) (fun W hSw => exec_load_any _ (.tmp 7) rfl (w.heap.size + 1) 0 D.row _ rfl (rangeAll hSw.2) Try.underlying111 rfl (nd_infoC HDD.out)) (by assumption) ?_
        simp only [List.setIfInBounds_toArray, List.set_cons_zero, List.set_cons_succ]
        refine held_take (v := ?v562) 6 rfl (by kernel_rfl) (by kernel_rfl) (by kernel_rfl) (fun _ _ _ h => h) (by rfl) ?y562 (by assumption) ?_
        case y562 => (intro w hSw; unfold HeldT at hSw; go_simp; (try with_reducible rfl); (try omega))
        simp only [List.setIfInBounds_toArray, List.set_cons_zero, List.set_cons_succ]
        refine held_none 7 rfl (by kernel_rfl) (by rfl) (fun K hK => ?_)
        refine wp_store_mid 111 (.tmp 57) (.tmp 56) rfl gn1 (r * 22) D.row.toArray rfl rfl ?_ (by simpa using nd_infoC HDD.out) (all_oneCell_toArray (nd_one D)) ?_
        · obtain ⟨d0, hd0⟩ : ∃ d0, T1.nds[r]? = some d0 := ⟨_, List.getElem?_eq_getElem hnl⟩
          exact h3.there r d0 hd0 _ (by simp [nd_len HDD.out])
        · have h4 := h3.setNode r hnl D HDD.out
          have hu4 := hu3.trans (Upd.setCells gn1 h3.inN D.row W2 (r * 22))
          refine hK.out _ _ ⟨h4.c4.trans (by simp), hHeld.2.upd (Upd.setCells (X := fun k => k = gn1) gn1 rfl D.row W2 (r * 22)) hgx⟩ (fun _ => ?_)
          clear hK K
          refine wpAnyH_done (by kernel_rfl) ?_ _
          refine NoPanic.normal ?_
          go_wp2
          go_ret
          exact ⟨rfl, X1, ⟨gn1, cap1, _, h4⟩, hu4⟩
theorem finR_len {T T' : Tb} {n r : Nat} {d : Nd} (h : finR T n d = some (r, T')) : T'.nds.length = T.nds.length ∧ T'.free.length ≤ T.free.length + 1 := by
  unfold finR at h
  split at h
  · split at h
    · cases h; simp
    · cases h; simp [giveN]
  · cases h
theorem remN_len : ∀ (f : Nat) (T T' : Tb) (n r : Nat) (p : Pfx), remN f T n p = some (r, T') → T'.nds.length = T.nds.length ∧ T'.free.length ≤ T.free.length + f
  | 0, _, _, _, _, _, h => by cases h
  | f + 1, T, T', n, r, p, h => by
    unfold remN at h
    split at h
    · cases h
    · split at h
      · have := finR_len h; omega
      · split at h
        · cases h
        · rename_i h1
          have := remN_len f _ _ _ _ _ h1
          have := finR_len h
          omega
/-- remove, as it reckons. -/
theorem rem_any : ∀ (f : Nat) (T T' : Tb) (n r : Nat) (p : Pfx) (w : World) (X : Nat → Prop) (g : Nat), TabM w X g T → p.addr.length = 16 → remN f T n p = some (r, T') → T.free.length + f ≤ 1000000 →
    Calls Try.prog 57 #[.pointer (some ⟨g, 0, none⟩), .int .i64 (n : Int), p.val] w (LaidT w X g T' r)
  | 0, _, _, _, _, _, _, _, _, _, _, hT, _ => by cases hT
  | f + 1, T, T', n, r, p, w, X, g, h, hp, hT, hl => by
    unfold remN at hT
    split at hT
    · cases hT
    · rename_i d hd
      split at hT
      · rename_i he
        exact rem_eq T T' n r d p w X g h hp hd he hT (by omega)
      · rename_i he
        have he : eqP d.p p = false := by simpa using he
        split at hT
        · cases hT
        · rename_i r1 T1 hr
          have := remN_len f _ _ _ _ _ hr
          exact rem_rec T T1 T' n r1 r d p w X g h hp hd he (fun W Y hW => rem_any f T T1 _ r1 p W Y g hW hp hr (by omega)) hT (by omega)
end Go.Proofs.Ytgimcapcnidjjaa

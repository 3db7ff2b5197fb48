/- Package space: a space in memory; the block that has a label, what meets blocks, the gaps that they leave. Package space: the gaps that blocks leave of a span. -/
import Derived.Test.YtgelbeglffjdaaaSqP
import Derived.Test.YtgelbeglffjdaaaRegX
import Derived.Test.YtgelbeglffjdaaaRsA
import Derived.Test.YtgelbeglffjdaaaRsC
import Derived.Deep.AppendLies
namespace Go.Proofs.Ytgelbeglffjdaaa
open Go Go.RowKit Go.Shelf
attribute [local go_sem] Oper.semAt_some

theorem exec_store_bxK {ρ : Operand → Value} {o : Oper} {w : World} (ty : TypeId) (x y : Operand) (ho : o.op = .store ty x y) (g : Nat) (l m : List Value) (hx : ρ x = .pointer (some ⟨g, 0, none⟩)) (hy : ρ y = .agg l.toArray)
    (hg : Bx w g ty m) (hi : (Try.prog.info? ty).map (·.size) = some l.length) (hold : m.length = l.length) (h1 : ∀ v ∈ l, v.oneCell' = true) :
    (execOp ρ o).run Try.prog w = .ok .skip (w.setRow g l.toArray) := by
  unfold execOp
  have := run_storeVar_row (P := Try.prog) w g ty ty m.toArray l.toArray hg (by simpa using hi) (by simpa using hold) (all_oneCell_toArray h1)
  simp only [ho, hx, hy, Instr.storeAt, Instr.sureAddr, Sem.run_bind, Sem.run_pure, Result.andThen_ok, this]
theorem built_bk0 : Try.prog.built 47 [] = some (bR ⟨⟨0, 0⟩, 0, 0⟩).toArray := by kernel_rfl
/-- A part of a slice, whatever its address. -/
theorem exec_sl_lh {P : Program} {ρ : Operand → Value} {o : Oper} {w : World} (t : TypeId) (x lo hi : Operand) (ho : o.op = .slice t x (some lo) (some hi) none) (ht : P.underlying t = some (.slice (P.elem t))) (c : Nat) (hz : ∀ w, (sizeOf (P.elem t)).run P w = .ok c w)
    (a : Option Addr) (n cap l h : Nat) (hx : ρ x = .slice a n cap) (hl : ρ lo = .int .i64 (l : Int)) (hh : ρ hi = .int .i64 (h : Int)) (h1 : l ≤ h) (h2 : h ≤ cap) : (execOp ρ o).run P w = .ok (.value (.slice (if cap = l then a else a.map (·.add (l * c))) (h - l) (cap - l))) w := by
  unfold execOp
  have h9 := run_slice_lh w t a n cap ht .i64 .i64 (l : Int) (h : Int) (by omega) (by omega) (by omega)
  rw [hz] at h9
  simp only [Result.andThen_ok, sliced, Int.toNat_natCast] at h9
  simp only [ho, hx, hl, hh, Option.map_some, Option.map_none, run_sliceAt_slice _ _ _ _ _ _ ht, h9, Sem.run_bind, Sem.run_pure, Result.andThen_ok]
theorem IsS.mid {w : World} {a : Option Addr} {n cap : Nat} {rs A M Z : List Spn} (h : IsS w (.slice a n cap) rs) (he : rs = A ++ M ++ Z) : IsS w (.slice (if cap = A.length then a else a.map (·.add (A.length * 2))) (A.length + M.length - A.length) (cap - A.length)) M := by
  obtain ⟨rfl, h1, h2, h3⟩ := h.shape
  subst he
  simp only [List.length_append] at h1
  refine ⟨sR_all M, _, _, by rw [show A.length + M.length - A.length = M.length by omega], by omega, by omega, fun hp => ?_⟩
  obtain ⟨b, k, rfl, hlt, hc⟩ := h3 (by simp only [List.length_append]; omega)
  rw [if_neg (by omega)]
  refine ⟨b, k + A.length * 2, by simp [Addr.add_lit], hlt, fun j v hj => ?_⟩
  have hjl := (List.getElem?_eq_some_iff.1 hj).1
  have hA : (A.flatMap sR).length = A.length * 2 := cflat_length A (sR_all A)
  have hl : ((A ++ M ++ Z).flatMap sR)[A.length * 2 + j]? = some v := by
    rw [List.flatMap_append, List.flatMap_append, List.append_assoc, List.getElem?_append_right (by omega), hA, show A.length * 2 + j - A.length * 2 = j by omega, List.getElem?_append_left hjl]
    exact hj
  have := hc _ _ hl
  rwa [← Nat.add_assoc] at this
/-! A space in memory. -/
def spC (t : SpS) (vb vr : Value) : List Value := [.int .i64 0, .int .i64 0, .int .i64 t.a1.f, .int .i64 t.a1.l, .int .i64 t.a2.f, .int .i64 t.a2.l, vb, vr]
structure SpM (W : World) (base pt : Nat) (vb vr : Value) (t : SpS) : Prop where
  bx : Bx W pt 92 (spC t vb vr)
  kb : W.ownsRow base 47 4 vb t.l.length (t.l.flatMap bR)
  kr : W.ownsRow base 27 2 vr (rowsB t.l).length ((rowsB t.l).flatMap sR)
  wf : WF t
  len : t.l.length ≤ 1000
  lo : base ≤ W.heap.size
section
variable {W W' : World} {base pt : Nat} {vb vr : Value} {t : SpS}
theorem SpM.up (h : SpM W base pt vb vr t) (hb : Below W.heap.size W W') : SpM W' base pt vb vr t := ⟨h.bx.up hb, own_below h.kb hb, own_below h.kr hb, h.wf, h.len, Nat.le_trans h.lo hb.size⟩
theorem SpM.isK (h : SpM W base pt vb vr t) : IsK W vb t.l := IsC.of_owned (bR_all _) h.kb
theorem SpM.isR (h : SpM W base pt vb vr t) : IsS W vr (rowsB t.l) := IsC.of_owned (sR_all _) h.kr
theorem SpM.own (h : SpM W base pt vb vr t) : OwnP W pt vb vr := ⟨by rw [h.bx.cell]; rfl, by rw [h.bx.cell]; rfl⟩
theorem SpM.rl (h : SpM W base pt vb vr t) : (rowsB t.l).length ≤ 1000 := Nat.le_trans (rowsB_length _) h.len
theorem SpM.may (h : SpM W base pt vb vr t) : ∀ b ∈ t.l, mayO b.s := fun b hb => (h.wf.blk b hb).1
end
/-! The block that has a label. -/
def aRes (x : Option Blk) : Value := .tuple #[bV (x.getD ⟨⟨0, 0⟩, 0, 0⟩), .bool x.isSome]
theorem Place.at {n : Int} {l A Z : List Blk} (h : Place n l A Z) (x : Blk) (hx : atB n Z = some x) : l[A.length]? = some x := by
  rw [h.eq, List.getElem?_append_right (Nat.le_refl _), Nat.sub_self]
  cases Z with
  | nil => cases hx
  | cons z Z =>
    simp only [atB] at hx
    split at hx
    · exact hx
    · cases hx
set_option maxRecDepth 100000 in
set_option maxHeartbeats 1000000 in
theorem at_any {base pt : Nat} {vb vr : Value} {t : SpS} (A Z : List Blk) (n : Int) (hP : Place n t.l A Z) (w : World) (h : SpM w base pt vb vr t) :
    Calls Try.prog 46 #[.pointer (some ⟨pt, 6, none⟩), .int .i64 n] w fun e w' => e = .returned (aRes (atB n Z)) ∧ Below w.heap.size w w' := by
  have hb0 : Below w.heap.size w (w.alloc (.cells (bR ⟨⟨0, 0⟩, 0, 0⟩).toArray 47)) := (Below.refl _ _).alloc (Nat.le_refl _) _
  have hx0 := Bx.new w 47 (bR ⟨⟨0, 0⟩, 0, 0⟩)
  have h1 := h.up hb0
  have HL := Lib.hid (place_any pt vb vr t.l A Z n hP _ h1.isK (Nat.le_trans h1.len (by decide)) h1.own)
  have HM := Lib.hid h
  have HB0 := Lib.hid hb0
  have HX0 := Lib.hid hx0
  obtain ⟨a, cap, hvb, hcap⟩ := h.isK.form
  have hAt := Lib.hid (fun x hx => hP.at x hx)
  have hpt := h.bx.lt
  subst hvb
  have hk : A.length ≤ t.l.length := by rw [hP.eq, List.length_append]; omega
  have hln := h.len
  clear h hb0 hx0 h1 hP
  generalize atB n Z = r at *
  cases r with
  | none =>
    go_enter Try.func46, Try.ntmps46
    go_wp2_with (go_at_call 75; refine HL.out.mono ?_; rintro e w1 ⟨rfl, b1⟩; refine Hid.out ?_)
    refine Lib.hid ?_
    have HX1 := Lib.hid (HX0.out.up b1)
    have HB1 := Lib.hid (below_up HB0.out b1 HB0.out.size)
    clear b1
    go_wp2_with (refine plS rfl (exec_store_bxK _ (.tmp 4) (.tmp 16) rfl w.heap.size (bR ⟨⟨0, 0⟩, 0, 0⟩) _ rfl rfl HX1.out blk_info rfl (bR_one _)) ?_)
    have HX2 := Lib.hid (HX1.out.row (bR ⟨⟨0, 0⟩, 0, 0⟩))
    have HB2 := Lib.hid (below_row HB1.out (Nat.le_refl _) (bR ⟨⟨0, 0⟩, 0, 0⟩).toArray)
    generalize w1.setRow w.heap.size (bR ⟨⟨0, 0⟩, 0, 0⟩).toArray = WZ at HX2 HB2 ⊢
    have z0 : WZ.cell? ⟨w.heap.size, 0, none⟩ = some (.int .i64 0) := by rw [HX2.out.cell]; rfl
    have z1 : WZ.cell? ⟨w.heap.size, 1, none⟩ = some (.int .i64 0) := by rw [HX2.out.cell]; rfl
    have z2 : WZ.cell? ⟨w.heap.size, 2, none⟩ = some (.int .i64 0) := by rw [HX2.out.cell]; rfl
    have z3 : WZ.cell? ⟨w.heap.size, 3, none⟩ = some (.int .i64 0) := by rw [HX2.out.cell]; rfl
    exact bodyPost_ret (v := aRes none) (by simp [results, Try.results46, go_sem, aRes, bV, bR, z0, z1, z2, z3]) rfl ⟨rfl, HB2.out⟩
  | some x =>
    have hxt := hAt.out x rfl
    have hkl := (List.getElem?_eq_some_iff.1 hxt).1
    obtain ⟨bb, kk, rfl, _⟩ : ∃ bb kk, a = some ⟨bb, kk, none⟩ ∧ bb < w.heap.size := by
      obtain ⟨_, _, _, h4⟩ := HM.out.isK.shape
      obtain ⟨b, o, e1, e2, _⟩ := h4 (by omega)
      exact ⟨b, o, e1, e2⟩
    have q1 : (0 : Int) ≤ (A.length : Int) := by omega
    have q2 : (A.length : Int) < (t.l.length : Int) := by omega
    have HXT := Lib.hid hxt
    clear hxt
    go_enter Try.func46, Try.ntmps46
    go_wp2_with (go_at_call 75; refine HL.out.mono ?_; rintro e w1 ⟨rfl, b1⟩; refine Hid.out ?_)
    refine Lib.hid ?_
    have HX1 := Lib.hid (HX0.out.up b1)
    have hbb := below_up HB0.out b1 HB0.out.size
    have hm1 := HM.out.up hbb
    have c6 := hm1.own.1
    have HR := Lib.hid (IsK.range hm1.isK _ _ HXT.out)
    have HB1 := Lib.hid hbb
    clear b1 hbb hm1
    go_wp2_with (first
      | (refine plV rfl (bV x) (exec_load_any 47 _ rfl bb (kk + A.length * 4) (bR x) _ rfl HR.out Try.underlying47 rfl blk_info) ?_)
      | (refine plS rfl (exec_store_bxK _ (.tmp 4) (.tmp 23) rfl w.heap.size (bR x) _ rfl rfl HX1.out blk_info rfl (bR_one _)) ?_))
    have HX2 := Lib.hid (HX1.out.row (bR x))
    have HB2 := Lib.hid (below_row HB1.out (Nat.le_refl _) (bR x).toArray)
    generalize w1.setRow w.heap.size (bR x).toArray = WZ at HX2 HB2 ⊢
    have z0 : WZ.cell? ⟨w.heap.size, 0, none⟩ = some (.int .i64 x.s.f) := by rw [HX2.out.cell]; rfl
    have z1 : WZ.cell? ⟨w.heap.size, 1, none⟩ = some (.int .i64 x.s.l) := by rw [HX2.out.cell]; rfl
    have z2 : WZ.cell? ⟨w.heap.size, 2, none⟩ = some (.int .i64 x.o) := by rw [HX2.out.cell]; rfl
    have z3 : WZ.cell? ⟨w.heap.size, 3, none⟩ = some (.int .i64 x.a) := by rw [HX2.out.cell]; rfl
    exact bodyPost_ret (v := aRes (some x)) (by simp [results, Try.results46, go_sem, aRes, bV, bR, z0, z1, z2, z3]) rfl ⟨rfl, HB2.out⟩
/-! What meets blocks. -/
def HeldM (pt b : Nat) (vr : Value) (s : Spn) (W : World) : Prop := W.cell? ⟨pt, 7, none⟩ = some vr ∧ W.rangeAt b 0 (sR s)
theorem HeldM.up {pt b : Nat} {vr : Value} {s : Spn} {W W' : World} (h : HeldM pt b vr s W) (h1 : pt < W.heap.size) (h2 : b < W.heap.size) (hb : Below W.heap.size W W') : HeldM pt b vr s W' :=
  ⟨(hb.cell (p := ⟨pt, 7, none⟩) h1).trans h.1, fun j v hj => (hb.cell (p := ⟨b, 0 + j, none⟩) h2).trans (h.2 j v hj)⟩
set_option maxRecDepth 100000 in
set_option maxHeartbeats 1000000 in
theorem meets_any {base pt : Nat} {vb vr : Value} {t : SpS} (s : Spn) (hs : mayO s) (w : World) (h : SpM w base pt vb vr t) :
    Calls Try.prog 71 #[.pointer (some ⟨pt, 6, none⟩), sV s] w fun e w' => e = .returned (.bool (metK t.l s)) ∧ Below w.heap.size w w' := by
  obtain ⟨A, M, Z, hn⟩ := near_split (show s.f ≤ s.l by unfold mayO at hs; omega) (rowsB_normal t.l)
  have hb0 : Below w.heap.size w (w.alloc (.cells (sR s).toArray 27)) := (Below.refl _ _).alloc (Nat.le_refl _) _
  have hx0 := Bx.new w 27 (sR s)
  have h1 := h.up hb0
  have HN := Lib.hid (near_any pt vb vr (rowsB t.l) A M Z s hs (rowsB_normal _) hn (Nat.le_trans h1.rl (by decide)) _ h1.isR h1.own h1.bx.lt)
  have HM := Lib.hid h
  have HB0 := Lib.hid hb0
  have HX0 := Lib.hid hx0
  have hmt : metK t.l s = meetS M s := (near_meet hn).symm
  have hrl := h.rl
  have hal : (rowsB t.l).length = A.length + M.length + Z.length := by rw [hn.eq, List.length_append, List.length_append]
  have HE := Lib.hid hn.eq
  obtain ⟨a, cap, hvr, hcap⟩ := IsS.form h.isR
  subst hvr
  have hcl : (rowsB t.l).length ≤ cap := (IsC.shape h.isR).2.1
  have hml : M.length ≤ 1000 := by omega
  have hA2 : A.length ≤ A.length + M.length := by omega
  have hAc : A.length + M.length ≤ cap := by omega
  have HME := Lib.hid (fun v W (hW : IsS W v M) => smeet_any v M s W hW (by omega))
  rw [hmt, show sV s = .agg (sR s).toArray from rfl]
  have mixed : Try.prog.follows .mixedOrders = true := by kernel_rfl
  clear h hb0 hx0 h1 hn hmt hs hal hrl
  obtain ⟨na, hna⟩ : ∃ na, A.length = na := ⟨_, rfl⟩
  obtain ⟨nz, hnz⟩ : ∃ nz, A.length + M.length = nz := ⟨_, rfl⟩
  have HNA := Lib.hid hna
  have HNZ := Lib.hid hnz
  rw [hnz] at HN hA2 hAc
  rw [hna] at HN hA2
  clear hna hnz
  obtain ⟨nr, hnr⟩ : ∃ nr, (rowsB t.l).length = nr := ⟨_, rfl⟩
  have HNR := Lib.hid hnr
  rw [hnr] at HM hcl
  clear hnr
  obtain ⟨sv, hsv⟩ : ∃ sv, sv = Value.slice (if cap = na then a else a.map (·.add (na * 2))) (nz - na) (cap - na) := ⟨_, rfl⟩
  have HSV := Lib.hid hsv
  clear hsv
  go_enter Try.func71, Try.ntmps71
  go_wp2_with (first
    | (go_at_call 79; refine HN.out.mono ?_; rintro e w1 ⟨rfl, b1⟩; refine Hid.out ?_)
    | (refine plV rfl (sV s) (exec_load_any 27 _ rfl w.heap.size 0 (sR s) _ rfl (rangeAll HX0.out) Try.underlying27 rfl sp_info) ?_))
  refine Lib.hid ?_
  have hbb := below_up HB0.out b1 HB0.out.size
  have HX1 := Lib.hid ((HX0.out.up b1).up (Below.refl _ _).drew)
  have HM1 := Lib.hid ((HM.out.up hbb).up (Below.refl _ _).drew)
  have HB1 := Lib.hid (below_up hbb (Below.refl _ _).drew hbb.size)
  clear b1 hbb HX0 HB0 HN HM
  go_wp2
  have hH : HeldM pt w.heap.size (.slice a nr cap) s w1.drew := ⟨HM1.out.own.2, rangeAll HX1.out⟩
  have HU := Lib.hid (fun W (hW : Below w1.drew.heap.size w1.drew W) => hH.up HM1.out.bx.lt HX1.out.lt hW)
  refine wp_region_noPanic ?_
  refine wp_region_held_drew (S := HeldM pt w.heap.size (.slice a nr cap) s) (by kernel_rfl) hH (fun hHeld => ?_)
  clear hH
  generalize w1.drew = wd at *
  refine held_take (v := ?v198) 0 rfl (by kernel_rfl) (by kernel_rfl) (by kernel_rfl) (fun _ _ _ h => h) (by rfl) ?y198 (by assumption) ?_
  case y198 => (intro w hSw; unfold HeldM at hSw; go_simp; (try with_reducible rfl); (try omega))
  simp only [List.setIfInBounds_toArray, List.set_cons_zero, List.set_cons_succ]
  refine held_take (v := ?v201) 1 rfl (by kernel_rfl) (by kernel_rfl) (by kernel_rfl) (fun _ _ _ h => h) (by rfl) ?y201 (by assumption) ?_
  case y201 => (intro w hSw; unfold HeldM at hSw; go_simp; (try with_reducible rfl); (try omega))
  simp only [List.setIfInBounds_toArray, List.set_cons_zero, List.set_cons_succ]
  refine held_take (v := ?v204) 2 rfl (by kernel_rfl) (by kernel_rfl) (by kernel_rfl) (fun _ _ _ h => h) (by rfl) ?y204 (by assumption) ?_
  case y204 => (intro w hSw; unfold HeldM at hSw; go_simp; (try with_reducible rfl); (try omega))
  simp only [List.setIfInBounds_toArray, List.set_cons_zero, List.set_cons_succ]
  refine held_take (v := ?v207) 3 rfl (by kernel_rfl) (by kernel_rfl) (by kernel_rfl) (fun _ _ _ h => h) (by rfl) ?y207 (by assumption) ?_
  case y207 => (intro w hSw; unfold HeldM at hSw; go_simp; (try with_reducible rfl); (try omega))
  simp only [List.setIfInBounds_toArray, List.set_cons_zero, List.set_cons_succ]
  refine held_take (v := ?v210) 4 rfl (by kernel_rfl) (by kernel_rfl) (by kernel_rfl) (fun _ _ _ h => h) (by rfl) ?y210 (by assumption) ?_
  case y210 => (intro w hSw; unfold HeldM at hSw; go_simp; (try with_reducible rfl); (try omega))
  simp only [List.setIfInBounds_toArray, List.set_cons_zero, List.set_cons_succ]
  refine held_take (v := ?v213) 5 rfl (by kernel_rfl) (by kernel_rfl) (by kernel_rfl) (fun _ _ _ h => h) (by rfl) ?y213 (by assumption) ?_
  case y213 => (intro w hSw; unfold HeldM at hSw; go_simp; (try with_reducible rfl); (try omega))
  simp only [List.setIfInBounds_toArray, List.set_cons_zero, List.set_cons_succ]
  refine held_take (v := sv) 6 rfl (by kernel_rfl) (by kernel_rfl) (by kernel_rfl) (fun _ _ _ h => h) (by rfl) (fun W hSw => (by rw [HSV.out]; exact exec_sl_lh _ (.tmp 16) (.tmp 17) (.tmp 18) rfl Try.underlying51 2 sp_size a nr cap na nz rfl rfl rfl hA2 hAc)) (by assumption) ?_
  simp only [List.setIfInBounds_toArray, List.set_cons_zero, List.set_cons_succ]
  refine held_take (v := sV s) 7 rfl (by kernel_rfl) (by kernel_rfl) (by kernel_rfl) (fun _ _ _ h => h) (by rfl) (fun W hSw => exec_load_any _ (.tmp 3) rfl w.heap.size 0 (sR s) _ rfl hSw.2 Try.underlying27 rfl sp_info) (by assumption) ?_
  simp only [List.setIfInBounds_toArray, List.set_cons_zero, List.set_cons_succ]
  refine held_one 8 rfl (by kernel_rfl) (by rfl) (fun K hK => ?_)
  go_simp
  refine (HME.out _ _ (by
    have h9 := IsS.mid (w := wd) (a := a) (n := nr) (cap := cap) HM1.out.isR HE.out
    rw [HNZ.out, HNA.out] at h9
    rw [HSV.out]
    exact h9)).mono ?_
  rintro e w2 ⟨rfl, b2⟩
  have HB2 := Lib.hid (below_up HB1.out b2 HB1.out.size)
  refine hK.out _ _ (HU.out _ b2) (fun _ => ?_)
  clear hK K b2
  refine held_take (v := ?v231) 9 rfl (by kernel_rfl) (by kernel_rfl) (by kernel_rfl) (fun _ _ _ h => h) (by rfl) ?y231 (by assumption) ?_
  case y231 => (intro w hSw; unfold HeldM at hSw; go_simp; (try with_reducible rfl); (try omega))
  simp only [List.setIfInBounds_toArray, List.set_cons_zero, List.set_cons_succ]
  refine wpAnyH_done (by kernel_rfl) ?_ _
  refine NoPanic.normal ?_
  go_wp2
  go_ret
  exact ⟨rfl, HB2.out⟩
end Go.Proofs.Ytgelbeglffjdaaa
namespace Go.Proofs.Ytgelbeglffjdaaa
open Go Go.RowKit Go.Shelf
attribute [local go_sem] Oper.semAt_some

theorem own_notnew {W : World} {base : Nat} {e : TypeId} {c : Nat} {v : Value} {n : Nat} {xs : List Value} (h : W.ownsRow base e c v n xs) : v.ownBlock ≠ some W.heap.size := fun e => by
  obtain ⟨cur, hc⟩ := own_type h _ e
  have := (Array.getElem?_eq_some_iff.1 hc).1
  omega
set_option maxRecDepth 100000 in
set_option maxHeartbeats 2000000 in
theorem gaps_any {base pt : Nat} {vb vr : Value} {t : SpS} (s : Spn) (hs : mayO s) (w : World) (h : SpM w base pt vb vr t) :
    Calls Try.prog 55 #[.pointer (some ⟨pt, 6, none⟩), sV s] w fun e w' => ∃ v' g, e = .returned v' ∧ IsS w' v' g ∧ 0 < g.length ∧ g.length ≤ 1001 ∧ (∀ n, inLab g n = (inSd s n && !hasB t.l n)) ∧ Below w.heap.size w w' := by
  obtain ⟨A, M, Z, hn⟩ := near_split (show s.f ≤ s.l by unfold mayO at hs; omega) (rowsB_normal t.l)
  have hb0 : Below w.heap.size w (w.alloc (.cells (sR s).toArray 27)) := (Below.refl _ _).alloc (Nat.le_refl _) _
  have hx0 := Bx.new w 27 (sR s)
  have h1 := h.up hb0
  have HN := Lib.hid (near_any pt vb vr (rowsB t.l) A M Z s hs (rowsB_normal _) hn (Nat.le_trans h1.rl (by decide)) _ h1.isR h1.own h1.bx.lt)
  have HM := Lib.hid h
  have HB0 := Lib.hid hb0
  have HX0 := Lib.hid hx0
  have HG := Lib.hid (near_gaps hs.may hn)
  have hMm := Lib.hid (fun r (hr : r ∈ M) => (hn.nM (rowsB_normal _)).may r hr)
  have hrl := h.rl
  have hal : (rowsB t.l).length = A.length + M.length + Z.length := by rw [hn.eq, List.length_append, List.length_append]
  have HE := Lib.hid hn.eq
  obtain ⟨a, cap, hvr, hcap⟩ := IsS.form h.isR
  subst hvr
  have hcl : (rowsB t.l).length ≤ cap := (IsC.shape h.isR).2.1
  have hml : M.length ≤ 1000 := by omega
  have hA2 : A.length ≤ A.length + M.length := by omega
  have hAc : A.length + M.length ≤ cap := by omega
  rw [show sV s = .agg (sR s).toArray from rfl]
  have e0 : (sR s)[0]? = some (.int .i64 s.f) := rfl
  have e1 : (sR s)[1]? = some (.int .i64 s.l) := rfl
  unfold mayO at hs
  clear h hb0 hx0 h1 hn hal hrl
  have hnz : A.length + M.length - A.length = M.length := by omega
  obtain ⟨sv, hsv⟩ : ∃ sv, sv = (if cap = A.length then a else a.map (·.add (A.length * 2))) := ⟨_, rfl⟩
  have HSV := Lib.hid hsv
  have HSL := Lib.hid (fun W (hW : IsS W (.slice a (rowsB t.l).length cap) (rowsB t.l)) => (by have := IsS.mid hW HE.out; rw [hnz, ← hsv] at this; exact this : IsS W (.slice sv M.length (cap - A.length)) M))
  have HNZ := Lib.hid hnz
  clear hsv hnz
  obtain ⟨na, hna⟩ : ∃ na, A.length = na := ⟨_, rfl⟩
  obtain ⟨nz, hnz⟩ : ∃ nz, A.length + M.length = nz := ⟨_, rfl⟩
  rw [hnz] at HN hA2 hAc HNZ
  rw [hna] at HN hA2 HNZ HSV HSL
  clear hna hnz
  obtain ⟨nr, hnr⟩ : ∃ nr, (rowsB t.l).length = nr := ⟨_, rfl⟩
  rw [hnr] at HM hcl HSL
  clear hnr
  go_enter Try.func55, Try.ntmps55
  go_wp2_with (first
    | (go_at_call 79; refine HN.out.mono ?_; rintro e w1 ⟨rfl, b1⟩; refine Hid.out ?_)
    | (refine plV rfl (sV s) (exec_load_any 27 _ rfl w.heap.size 0 (sR s) _ rfl (rangeAll HX0.out) Try.underlying27 rfl sp_info) ?_))
  refine Lib.hid ?_
  have hbb := below_up HB0.out b1 HB0.out.size
  have HX1 := Lib.hid (HX0.out.up b1)
  have HM1 := Lib.hid (HM.out.up hbb)
  have HB1 := Lib.hid hbb
  have c7 := HM1.out.own.2
  have hx1 := HX1.out.lt
  clear b1 hbb HX0 HB0 HN HM
  have HO0 := Lib.hid (World.ownsRow_nil w1 w1.heap.size 27 2 : w1.ownsRow w1.heap.size 27 2 (.slice none 0 0) (gapsQ s.f (M.take 0)).length ((gapsQ s.f (M.take 0)).flatMap sR))
  go_wp2_with (refine plV rfl (.slice sv (nz - na) (cap - na)) (by rw [HSV.out]; exact exec_sl_lh _ (.tmp 22) (.tmp 23) (.tmp 24) rfl Try.underlying51 2 sp_size a nr cap na nz rfl rfl rfl hA2 hAc) ?_)
  rw [HNZ.out]
  go_loopw [5, 6, 27] (fun vo fo i wr => ∃ k : Nat, k ≤ M.length ∧ i = .int .i64 (k : Int) ∧ fo = .int .i64 (gapE s.f (M.take k)) ∧ Hid (wr.ownsRow w1.heap.size 27 2 vo (gapsQ s.f (M.take k)).length ((gapsQ s.f (M.take k)).flatMap sR)) ∧ Below w1.heap.size w1 wr) (fun _ _ i _ => M.length - (intOf i).toNat)
  case atStart => exact ⟨0, Nat.zero_le _, rfl, rfl, HO0, Below.refl _ _⟩
  case round =>
    clear HO0
    obtain ⟨k, hk, rfl, rfl, HOW, hbel⟩ := hrel
    have hE : 0 ≤ gapE s.f (M.take k) ∧ gapE s.f (M.take k) ≤ 1048576 := by
      unfold gapE
      cases hl : (M.take k).getLast? with
      | none => exact (show 0 ≤ s.f ∧ s.f ≤ 1048576 by omega)
      | some r =>
        have h9 := hMm.out r (List.mem_of_mem_take (List.mem_of_getLast? hl))
        unfold mayS at h9
        exact (show 0 ≤ r.l + 1 ∧ r.l + 1 ≤ 1048576 by omega)
    have hlen := gapsQ_length (M.take k) s.f
    rw [List.length_take, Nat.min_eq_left hk] at hlen
    obtain ⟨E, hEE⟩ : ∃ E, gapE s.f (M.take k) = E := ⟨_, rfl⟩
    rw [hEE] at hE
    have HEE := Lib.hid hEE
    rw [hEE]
    clear hEE
    obtain ⟨ti, hti, htz, hts, htb⟩ := info_parts sp_infoF
    by_cases hlt : k < M.length
    · have hlti : (k : Int) < (M.length : Int) := by omega
      have h0k : (0 : Int) ≤ (k : Int) := by omega
      obtain ⟨x, hx⟩ : ∃ x, M[k]? = some x := ⟨M[k], List.getElem?_eq_getElem hlt⟩
      obtain ⟨b, o, rfl, hbl⟩ := IsS.place (HSL.out _ HM1.out.isR) (by omega)
      have hr := IsS.range ((HSL.out _ HM1.out.isR).below hbel) k x hx
      have x0 := rng0 hr
      have x1 := rng1 hr
      have hxm := hMm.out x (List.mem_of_getElem? hx)
      have HX := Lib.hid hx
      unfold mayS at hxm
      have hb1 : Below wr.heap.size wr (wr.alloc (.cells (sR x).toArray 27)) := (Below.refl _ _).alloc (Nat.le_refl _) _
      have hb2 : Below (wr.alloc (.cells (sR x).toArray 27)).heap.size (wr.alloc (.cells (sR x).toArray 27)) ((wr.alloc (.cells (sR x).toArray 27)).alloc (.cells (sR ⟨E, x.f - 1⟩).toArray 27)) := (Below.refl _ _).alloc (Nat.le_refl _) _
      have HROW := Lib.hid (own_below (own_below HOW.out hb1) hb2)
      have HB2 := Lib.hid (below_up (below_up hbel hb1 hbel.size) hb2 (Nat.le_trans hbel.size hb1.size))
      have hsz : (wr.alloc (.cells (sR x).toArray 27)).heap.size = wr.heap.size + 1 := by simp
      have hbn := Bx.new (wr.alloc (.cells (sR x).toArray 27)) 27 (sR ⟨E, x.f - 1⟩)
      rw [hsz] at hbn
      have HBN := Lib.hid hbn
      have HBX := Lib.hid ((Bx.new wr 27 (sR x)).up hb2)
      have hww := hbel.size
      have hno := own_notnew HOW.out
      clear hx hr hb1 hb2 hbel HOW hbn
      go_wp2_with (first
        | (refine plV rfl (sV ⟨E, x.f - 1⟩) (exec_build2 _ 0 1 (.tmp 32) (.tmp 35) rfl _ _ (sR ⟨E, x.f - 1⟩) rfl rfl (built_sp2 _ _)) ?_)
        | (refine plV rfl (.slice (some ⟨wr.heap.size + 1, 0, none⟩) 1 1) (exec_one_spb (.tmp 36) rfl ⟨E, x.f - 1⟩ rfl _ hsz) ?_)
        | (at_builtin; refine wpList_append_lies _ rfl _ _ 51 rfl w1.heap.size 27 ti (sV ⟨0, 0⟩) 2 16 Try.underlying51 hti htz hts htb rfl (by decide) _ _ _ rfl HROW.out ⟨wr.heap.size + 1, 0, none⟩ 1 1 (sR ⟨E, x.f - 1⟩) rfl rfl (fun j u hj => World.news_of_block HBN.out j u (by simpa using hj)) (sR_one _) (by decide) (by unfold maxLen; omega) (by omega) (by simp; omega) _ rfl ?_; intro g9 cap9 w9 hown hgr hat hlt9; refine Hid.out ?_))
      refine Lib.hid ?_
      have hB9 : Below w1.heap.size w1 w9 := HB2.out.grown hgr (by simp; omega) (fun k e => owned_low HROW.out k e)
      have c0 : w9.cell? ⟨wr.heap.size, 0, none⟩ = some (.int .i64 x.f) := (hgr.cell_far ⟨wr.heap.size, 0, none⟩ (by simp; omega) (fun e => hno e.symm)).trans (by have := HBX.out.cell 0; exact this)
      have c1 : w9.cell? ⟨wr.heap.size, 1, none⟩ = some (.int .i64 x.l) := (hgr.cell_far ⟨wr.heap.size, 1, none⟩ (by simp; omega) (fun e => hno e.symm)).trans (by have := HBX.out.cell 1; exact this)
      have HT1 := Lib.hid (show M.take (k + 1) = M.take k ++ [x] from take_next HX.out)
      have HOR := Lib.hid (show w9.ownsRow w1.heap.size 27 2 (.slice (some ⟨g9, 0, none⟩) (k + 1) cap9) (gapsQ s.f (M.take (k + 1))).length ((gapsQ s.f (M.take (k + 1))).flatMap sR) by
        rw [HT1.out, gapsQ_snoc, HEE.out, List.length_append, List.flatMap_append, hlen]
        rw [hlen] at hown
        exact hown)
      have HBW := Lib.hid hB9
      clear hown hgr hat hB9 HROW HBN HB2 HBX
      go_wp2
      go_roundw
      case rel => exact ⟨k + 1, by omega, rfl, by rw [HT1.out, gapE_snoc], HOR, HBW.out⟩
      case measure => simp only [intOf]; omega
    · have hke : k = M.length := by omega
      subst hke
      rw [List.take_of_length_le (Nat.le_refl _)] at HOW HEE
      have hb2 : Below wr.heap.size wr (wr.alloc (.cells (sR ⟨E, s.l⟩).toArray 27)) := (Below.refl _ _).alloc (Nat.le_refl _) _
      have HROW := Lib.hid (own_below HOW.out hb2)
      have HBN := Lib.hid (Bx.new wr 27 (sR ⟨E, s.l⟩))
      have HB2 := Lib.hid (below_up hbel hb2 hbel.size)
      have hlti : ¬ ((M.length : Int) < (M.length : Int)) := by omega
      have hxs := HX1.out.up hbel
      have d1 : wr.cell? ⟨w.heap.size, 1, none⟩ = some (.int .i64 s.l) := by have := rng1 (rangeAll hxs); simpa using this
      have hww := hbel.size
      rw [List.take_of_length_le (Nat.le_refl _)] at hlen
      have hgp : gapsP s.f s.l M = gapsQ s.f M ++ [⟨E, s.l⟩] := by rw [gapsP_eq, HEE.out]
      have HGP := Lib.hid hgp
      clear hxs hb2 hbel HOW hgp
      go_wp2_with (first
        | (refine plV rfl (sV ⟨E, s.l⟩) (exec_build2 _ 0 1 (.tmp 44) (.tmp 46) rfl _ _ (sR ⟨E, s.l⟩) rfl rfl (built_sp2 _ _)) ?_)
        | (refine plV rfl (.slice (some ⟨wr.heap.size, 0, none⟩) 1 1) (exec_one_spb (.tmp 47) rfl ⟨E, s.l⟩ rfl _ rfl) ?_)
        | (at_builtin; refine wpList_append_lies _ rfl _ _ 51 rfl w1.heap.size 27 ti (sV ⟨0, 0⟩) 2 16 Try.underlying51 hti htz hts htb rfl (by decide) _ _ _ rfl HROW.out ⟨wr.heap.size, 0, none⟩ 1 1 (sR ⟨E, s.l⟩) rfl rfl (fun j u hj => World.news_of_block HBN.out j u (by simpa using hj)) (sR_one _) (by decide) (by unfold maxLen; omega) (by omega) (by simp; omega) _ rfl ?_; intro g9 cap9 w9 hown hgr hat hlt9; refine Hid.out ?_))
      refine Lib.hid ?_
      have hB9 : Below w1.heap.size w1 w9 := HB2.out.grown hgr (by simp; omega) (fun k e => owned_low HROW.out k e)
      have HR := Lib.hid (show IsS w9 (.slice (some ⟨g9, 0, none⟩) (M.length + 1) cap9) (gapsP s.f s.l M) ∧ 0 < (gapsP s.f s.l M).length ∧ (gapsP s.f s.l M).length ≤ 1001 ∧ Below w.heap.size w w9 by
        refine ⟨?_, by rw [gapsP_length]; omega, by rw [gapsP_length]; omega, below_up HB1.out hB9 HB1.out.size⟩
        rw [HGP.out]
        refine IsC.of_owned (base := w1.heap.size) (e := 27) (sR_all _) ?_
        rw [List.length_append, List.flatMap_append, hlen]
        rw [hlen] at hown
        exact hown)
      clear hown hgr hat hB9
      go_wp2
      go_ret
      exact ⟨_, _, rfl, HR.out.1, HR.out.2.1, HR.out.2.2.1, HG.out, HR.out.2.2.2⟩
end Go.Proofs.Ytgelbeglffjdaaa

/- Stage 12's laws: a step of a space, and of the document's. -/
import Derived.Test.YtgelbeglffjdaaaZ12
namespace Go.Proofs.Ytgelbeglffjdaaa
open Go Go.RowKit Go.Shelf
attribute [local go_sem] Oper.semAt_some

/-- the document's box, the step's and the result's, all new -/
structure DoQ (w : World) (u : SpS) (vl : Value) (x : StpS) (W : World) : Prop where
  s : Bx W w.heap.size 31 (rqR u vl)
  p : Bx W (w.heap.size + 1) 35 (stR x)
  r : Bx W (w.heap.size + 1 + 1) 31 (rqR ⟨⟨0, 0⟩, ⟨0, 0⟩, []⟩ (.slice none 0 0))
  below : Below w.heap.size w W
theorem DoQ.up {w : World} {u : SpS} {vl : Value} {x : StpS} {W W' : World} (h : DoQ w u vl x W) (hb : Below W.heap.size W W') : DoQ w u vl x W' := ⟨h.s.up hb, h.p.up hb, h.r.up hb, below_up h.below hb h.below.size⟩
theorem doQ_new (w : World) (u : SpS) (vl : Value) (x : StpS) : DoQ w u vl x (((w.alloc (.cells (rqR u vl).toArray 31)).alloc (.cells (stR x).toArray 35)).alloc (.cells (rqR ⟨⟨0, 0⟩, ⟨0, 0⟩, []⟩ (.slice none 0 0)).toArray 31)) := by
  have al : ∀ (W : World) (o : Obj), Below W.heap.size W (W.alloc o) := fun W o => (Below.refl _ _).alloc (Nat.le_refl _) _
  have h1 := Bx.new w 31 (rqR u vl)
  have h2 := Bx.new (w.alloc (.cells (rqR u vl).toArray 31)) 35 (stR x)
  have h3 := Bx.new ((w.alloc (.cells (rqR u vl).toArray 31)).alloc (.cells (stR x).toArray 35)) 31 (rqR ⟨⟨0, 0⟩, ⟨0, 0⟩, []⟩ (.slice none 0 0))
  have s1 : (w.alloc (.cells (rqR u vl).toArray 31)).heap.size = w.heap.size + 1 := by simp
  have s2 : ((w.alloc (.cells (rqR u vl).toArray 31)).alloc (.cells (stR x).toArray 35)).heap.size = w.heap.size + 1 + 1 := by simp
  rw [s1] at h2
  rw [s2] at h3
  have b1 := al w (.cells (rqR u vl).toArray 31)
  have b2 := al (w.alloc (.cells (rqR u vl).toArray 31)) (.cells (stR x).toArray 35)
  have b3 := al ((w.alloc (.cells (rqR u vl).toArray 31)).alloc (.cells (stR x).toArray 35)) (.cells (rqR ⟨⟨0, 0⟩, ⟨0, 0⟩, []⟩ (.slice none 0 0)).toArray 31)
  exact ⟨(h1.up b2).up b3, h2.up b3, h3, below_up (below_up b1 b2 b1.size) b3 (Nat.le_trans b1.size b2.size)⟩
def HeldDo (g g8 : Nat) (x : StpS) (T : SpS) (v : Value) (W : World) : Prop := W.cell? ⟨g + 1, 1, none⟩ = some (.int .i64 x.o) ∧ W.cell? ⟨g + 1, 2, none⟩ = some (.int .i64 x.k) ∧ W.cell? ⟨g + 1, 3, none⟩ = some (.int .i64 x.n) ∧ W.rangeAt (g + 1) 4 (sR x.s) ∧ W.rangeAt g8 0 (rqR T v)
theorem heldDo {W : World} {g g8 : Nat} {x : StpS} {T : SpS} {v : Value} (h : Bx W (g + 1) 35 (stR x)) (h8 : Bx W g8 31 (rqR T v)) : HeldDo g g8 x T v W := ⟨by rw [h.cell]; rfl, by rw [h.cell]; rfl, by rw [h.cell]; rfl, h.range 4 _ rfl, rangeAll h8⟩
theorem exec_eql_err {ρ : Operand → Value} {o : Oper} {W : World} (x y : Operand) (ty : TypeId) (ho : o.op = .binOp .eql 55 x y ty) (a b : Int) (hx : ρ x = .int .i64 a) (hy : ρ y = .int .i64 b) :
    (execOp ρ o).run Try.prog W = .ok (.value (.bool (a == b))) W := by
  unfold execOp
  simp only [ho, hx, hy]
  go_simp
def HeldDr (g12 g15 : Nat) (T : SpS) (v : Value) (X Y : Spn) (W : World) : Prop := W.rangeAt g12 0 (rqR T v) ∧ W.rangeAt (g12 + 1) 0 (sR X) ∧ W.rangeAt g15 0 (sR Y)
def DoZ (w : World) (base pt : Nat) (vb vr vl : Value) (t u : SpS) (x : StpS) (e : Ending) (w' : World) : Prop := ∃ v' b, e = .returned (.tuple #[rqV (u.step x) v', .bool b]) ∧ (u = t → b = true) ∧ DoTo w w' base pt vb vr vl (t.step x) (u.step x) v'
set_option maxRecDepth 100000 in
set_option maxHeartbeats 4000000 in
theorem do_carve {base pt : Nat} {vb vr vl : Value} {t u : SpS} (x : StpS) (w : World) (h : SpM w base pt vb vr t) (hl9 : t.l.length ≤ 900) (hwu : WF u) (hln1 : u.l.length ≤ 1000) (hkl : IsK w vl u.l)
    (ha : ∀ k, vl.ownBlock = some k → ¬ OwnK pt vb vr k ∧ k < w.heap.size) (hq : x.q = 0) : Calls Try.prog 12 #[.pointer (some ⟨pt, 0, none⟩), rqV u vl, stV x] w (DoZ w base pt vb vr vl t u x) := by
  have mixed : Try.prog.follows .mixedOrders = true := by kernel_rfl
  have HK := Lib.hid hkl
  have HWF := Lib.hid hwu
  have HLN := Lib.hid hln1
  have HL9 := Lib.hid hl9
  have HM := Lib.hid h
  have HA := Lib.hid ha
  obtain ⟨ab, cb, hvb, hcb⟩ := hkl.form
  subst hvb
  have HQ := Lib.hid (doQ_new w u (.slice ab u.l.length cb) x)
  rw [show (rqR ⟨⟨0, 0⟩, ⟨0, 0⟩, []⟩ (.slice none 0 0)).toArray = #[.int .i64 0, .int .i64 0, .int .i64 0, .int .i64 0, .int .i64 0, .int .i64 0, .slice none 0 0] from rfl] at HQ
  have p0 := HQ.out.p.cell 0
  have p1 := HQ.out.p.cell 1
  have p2 := HQ.out.p.cell 2
  have p3 := HQ.out.p.cell 3
  have p4 := HQ.out.p.range 4 (sR x.s) rfl
  have hrs := rangeAll HQ.out.s
  rw [show rqV u (.slice ab u.l.length cb) = .agg (rqR u (.slice ab u.l.length cb)).toArray from rfl, show stV x = .agg (stR x).toArray from rfl]
  clear h hl9 hwu hln1 hkl ha
  have hst : t.step x = (t.carve x.k x.s).1 := by unfold SpS.step; simp [hq]
  have hsu : u.step x = (u.carve x.k x.s).1 := by unfold SpS.step; simp [hq]
  unfold DoZ
  rw [hst, hsu]
  obtain ⟨R, hR⟩ : ∃ R, (u.carve x.k x.s) = R := ⟨_, rfl⟩
  have HR := Lib.hid hR
  have HRC := Lib.hid (rcarve_any u (.slice ab u.l.length cb) x.k x.s _ HWF.out HLN.out (HK.out.below HQ.out.below))
  rw [hR] at HRC
  rw [hR]
  clear hst hsu hR
  replace p0 : _ = some (Value.int IntKind.i64 0) := p0.trans (by show some (Value.int .i64 x.q) = _; rw [hq])
  replace p1 : _ = some (Value.int IntKind.i64 x.o) := p1.trans rfl
  replace p2 : _ = some (Value.int IntKind.i64 x.k) := p2.trans rfl
  replace p3 : _ = some (Value.int IntKind.i64 x.n) := p3.trans rfl
  go_enter Try.func12, Try.ntmps12
  go_wp2_with (first
    | (refine plV rfl (rqV u (.slice ab u.l.length cb)) (exec_load_any 31 (.tmp 4) rfl w.heap.size 0 (rqR u (.slice ab u.l.length cb)) _ rfl hrs Try.underlying31 rfl refs_info) ?_)
    | (refine plV rfl (sV x.s) (exec_load_any 27 (.tmp 29) rfl (w.heap.size + 1) 4 (sR x.s) _ rfl p4 Try.underlying27 rfl sp_info) ?_)
    | (go_at_call 41; refine HRC.out.mono ?_; rintro e w3 ⟨v3, rfl, i3, n3, b3⟩; refine Hid.out ?_))
  refine Lib.hid ?_
  have HQ3 := Lib.hid (HQ.out.up b3)
  obtain ⟨T, hT⟩ : ∃ T, R.1 = T := ⟨_, rfl⟩
  obtain ⟨C, hC⟩ : ∃ C, R.2 = C := ⟨_, rfl⟩
  have HT := Lib.hid hT
  have HC := Lib.hid hC
  rw [hT] at i3
  rw [hT, hC]
  obtain ⟨a3, c3, hv3, hc3⟩ := i3.form
  subst hv3
  have HI3 := Lib.hid i3
  have HN3 := Lib.hid n3
  have h23 := b3.size
  have HG2 := Lib.hid HQ.out.r.lt
  have hba : Below w3.heap.size w3 (w3.alloc (.cells (rqR T (.slice a3 T.l.length c3)).toArray 31)) := (Below.refl _ _).alloc (Nat.le_refl _) _
  have HQ4 := Lib.hid (HQ3.out.up hba)
  have HY4 := Lib.hid (Bx.new w3 31 (rqR T (.slice a3 T.l.length c3)))
  have hsz4 : (w3.alloc (.cells (rqR T (.slice a3 T.l.length c3)).toArray 31)).heap.size = w3.heap.size + 1 := by simp
  obtain ⟨g8, hg8⟩ : ∃ g8, g8 = w3.heap.size := ⟨_, rfl⟩
  have HG8 := Lib.hid hg8
  have HB3 := Lib.hid b3
  have HBA := Lib.hid hba
  clear b3 i3 n3 hc3 hba p1 p2 p3 p4 hrs hT hC
  go_wp2_with (refine plS rfl (exec_store_fresh _ (.tmp 8) (.tmp 32) rfl (rqR T (.slice a3 T.l.length c3)) _ w3.heap.size rfl rfl rfl refs_info rfl (rqR_one _ _ rfl)) ?_; refine Hid.out ?_)
  refine Lib.hid ?_
  have HS4 := Lib.hid hsz4
  clear hsz4
  generalize w3.alloc (.cells (rqR T (.slice a3 T.l.length c3)).toArray 31) = w4 at *
  rw [← hg8] at HY4 ⊢
  clear hg8
  go_wp2
  have HQD := Lib.hid (HQ4.out.up (Below.refl _ _).drew)
  have HYD := Lib.hid (HY4.out.up (Below.refl _ _).drew)
  have HBD := Lib.hid (below_up HBA.out (Below.refl _ _).drew HBA.out.size)
  have HSD := Lib.hid (show w4.drew.heap.size = w3.heap.size + 1 from HS4.out)
  refine wp_region_noPanic ?_
  refine wp_region_held_drew (S := HeldDo w.heap.size g8 x T (.slice a3 T.l.length c3)) (by kernel_rfl) (heldDo HQD.out.p HYD.out) (fun hHeld => ?_)
  generalize w4.drew = wd at *
  clear HQ4 HY4
  refine held_take (v := rqV T (.slice a3 T.l.length c3)) 0 rfl (by kernel_rfl) (by kernel_rfl) (by kernel_rfl) (fun _ _ _ h => h) (by rfl) (fun W hSw => exec_load_any _ (.tmp 8) rfl g8 0 (rqR T (.slice a3 T.l.length c3)) _ rfl hSw.2.2.2.2 Try.underlying31 rfl refs_info) (by assumption) ?_
  simp only [List.setIfInBounds_toArray, List.set_cons_zero, List.set_cons_succ]
  refine held_take (v := ?v118) 1 rfl (by kernel_rfl) (by kernel_rfl) (by kernel_rfl) (fun _ _ _ h => h) (by rfl) ?y118 (by assumption) ?_
  case y118 => (intro w hSw; unfold HeldDo at hSw; go_simp; (try with_reducible rfl); (try omega))
  simp only [List.setIfInBounds_toArray, List.set_cons_zero, List.set_cons_succ]
  refine held_take (v := ?v121) 2 rfl (by kernel_rfl) (by kernel_rfl) (by kernel_rfl) (fun _ _ _ h => h) (by rfl) ?y121 (by assumption) ?_
  case y121 => (intro w hSw; unfold HeldDo at hSw; go_simp; (try with_reducible rfl); (try omega))
  simp only [List.setIfInBounds_toArray, List.set_cons_zero, List.set_cons_succ]
  refine held_take (v := ?v124) 3 rfl (by kernel_rfl) (by kernel_rfl) (by kernel_rfl) (fun _ _ _ h => h) (by rfl) ?y124 (by assumption) ?_
  case y124 => (intro w hSw; unfold HeldDo at hSw; go_simp; (try with_reducible rfl); (try omega))
  simp only [List.setIfInBounds_toArray, List.set_cons_zero, List.set_cons_succ]
  refine held_take (v := ?v127) 4 rfl (by kernel_rfl) (by kernel_rfl) (by kernel_rfl) (fun _ _ _ h => h) (by rfl) ?y127 (by assumption) ?_
  case y127 => (intro w hSw; unfold HeldDo at hSw; go_simp; (try with_reducible rfl); (try omega))
  simp only [List.setIfInBounds_toArray, List.set_cons_zero, List.set_cons_succ]
  refine held_take (v := sV x.s) 5 rfl (by kernel_rfl) (by kernel_rfl) (by kernel_rfl) (fun _ _ _ h => h) (by rfl) (fun W hSw => exec_load_any _ (.tmp 38) rfl (w.heap.size + 1) 4 (sR x.s) _ rfl hSw.2.2.2.1 Try.underlying27 rfl sp_info) (by assumption) ?_
  simp only [List.setIfInBounds_toArray, List.set_cons_zero, List.set_cons_succ]
  refine held_take (v := ?v132) 7 rfl (by kernel_rfl) (by kernel_rfl) (by kernel_rfl) (fun _ _ _ h => h) (by rfl) ?y132 (by assumption) ?_
  case y132 => (intro w hSw; unfold HeldDo at hSw; go_simp; (try with_reducible rfl); (try omega))
  simp only [List.setIfInBounds_toArray, List.set_cons_zero, List.set_cons_succ]
  refine held_one 6 rfl (by kernel_rfl) (by rfl) (fun K hK => ?_)
  go_simp
  refine (carve_any x.k x.s wd (HM.out.up HQD.out.below)).mono ?_
  rintro e w6 ⟨rfl, s6⟩
  have hlow : ∀ g, w.heap.size ≤ g → ¬ OwnK pt vb vr g := fun g hg hk => by have := HM.out.low hk; omega
  have HP6 := Lib.hid (HQD.out.p.kp s6.kp (hlow _ (by omega)))
  have HR6 := Lib.hid (HQD.out.r.kp s6.kp (hlow _ (by omega)))
  have HY6 := Lib.hid (HYD.out.kp s6.kp (hlow _ (by have := HG8.out; have := HB3.out.size; have := HG2.out; omega)))
  have HD6 := Lib.hid (DoTo.of HM.out HA.out HQD.out.below (show w.heap.size ≤ w.heap.size + 1 + 1 by omega) HG2.out (vl := (.slice ab u.l.length cb)) (v' := (.slice a3 T.l.length c3)) (w3 := w3) HN3.out HB3.out.size (by rw [HSD.out]; omega) (IsC.below HI3.out HBD.out) s6 (rqR T (.slice a3 T.l.length c3)).toArray)
  obtain ⟨D, hD⟩ : ∃ D, (t.carve x.k x.s).2 = D := ⟨_, rfl⟩
  have HD := Lib.hid hD
  rw [hD]
  refine hK.out _ _ (heldDo HP6.out HY6.out) (fun _ => ?_)
  (try simp only [Act.put, List.setIfInBounds_toArray, List.set_cons_zero, List.set_cons_succ])
  clear hK K s6 hlow hD
  refine held_take (v := .bool (D == C)) 8 rfl (by kernel_rfl) (by kernel_rfl) (by kernel_rfl) (fun _ _ _ h => h) (by rfl) (fun W hSw => exec_eql_err _ _ _ rfl D C rfl rfl) (by assumption) ?_
  simp only [List.setIfInBounds_toArray, List.set_cons_zero, List.set_cons_succ]
  refine held_none 9 rfl (by kernel_rfl) (by rfl) (fun K hK => ?_)
  refine wp_of_skip (exec_store_bxK _ (.tmp 6) (.tmp 34) rfl (w.heap.size + 1 + 1) (rqR T (.slice a3 T.l.length c3)) _ rfl rfl HR6.out refs_info rfl (rqR_one _ _ rfl)) ?_
  have hP7 := HP6.out.rowOther (k := w.heap.size + 1 + 1) (by omega) (rqR T (.slice a3 T.l.length c3)).toArray
  have hY7 := HY6.out.rowOther (k := w.heap.size + 1 + 1) (by have := HG8.out; have := HB3.out.size; have := HG2.out; omega) (rqR T (.slice a3 T.l.length c3)).toArray
  refine hK.out _ _ (heldDo hP7 hY7) (fun _ => ?_)
  clear hK K hP7 hY7
  refine held_take (v := ?v158) 10 rfl (by kernel_rfl) (by kernel_rfl) (by kernel_rfl) (fun _ _ _ h => h) (by rfl) ?y158 (by assumption) ?_
  case y158 => (intro w hSw; unfold HeldDo at hSw; go_simp; (try with_reducible rfl); (try omega))
  simp only [List.setIfInBounds_toArray, List.set_cons_zero, List.set_cons_succ]
  refine wpAnyH_done (by kernel_rfl) ?_ _
  refine NoPanic.normal ?_
  have hxz := HR6.out.row (rqR T (.slice a3 T.l.length c3))
  generalize w6.setRow (w.heap.size + 1 + 1) (rqR T (.slice a3 T.l.length c3)).toArray = WZ at *
  have u0 : WZ.cell? ⟨w.heap.size + 1 + 1, 0, none⟩ = some (.int .i64 0) := by rw [hxz.cell]; rfl
  have u1 : WZ.cell? ⟨w.heap.size + 1 + 1, 1, none⟩ = some (.int .i64 0) := by rw [hxz.cell]; rfl
  have u2 : WZ.cell? ⟨w.heap.size + 1 + 1, 2, none⟩ = some (.int .i64 T.a1.f) := by rw [hxz.cell]; rfl
  have u3 : WZ.cell? ⟨w.heap.size + 1 + 1, 3, none⟩ = some (.int .i64 T.a1.l) := by rw [hxz.cell]; rfl
  have u4 : WZ.cell? ⟨w.heap.size + 1 + 1, 4, none⟩ = some (.int .i64 T.a2.f) := by rw [hxz.cell]; rfl
  have u5 : WZ.cell? ⟨w.heap.size + 1 + 1, 5, none⟩ = some (.int .i64 T.a2.l) := by rw [hxz.cell]; rfl
  have u6 : WZ.cell? ⟨w.heap.size + 1 + 1, 6, none⟩ = some ((.slice a3 T.l.length c3)) := by rw [hxz.cell]; rfl
  go_wp2
  exact bodyPost_ret (v := .tuple #[rqV T (.slice a3 T.l.length c3), .bool (D == C)]) (by simp [results, Try.results12, go_sem, rqV, rqR, u0, u1, u2, u3, u4, u5, u6]) rfl ⟨(.slice a3 T.l.length c3), D == C, by rw [HT.out], fun e => by
    subst e
    have h1 := HD.out
    rw [HR.out, HC.out] at h1
    rw [h1]
    exact beq_self_eq_true _, by rw [HT.out]; exact HD6.out⟩
set_option maxRecDepth 100000 in
set_option maxHeartbeats 4000000 in
theorem do_close {base pt : Nat} {vb vr vl : Value} {t u : SpS} (x : StpS) (w : World) (h : SpM w base pt vb vr t) (hl9 : t.l.length ≤ 900) (hwu : WF u) (hln1 : u.l.length ≤ 1000) (hkl : IsK w vl u.l)
    (ha : ∀ k, vl.ownBlock = some k → ¬ OwnK pt vb vr k ∧ k < w.heap.size) (hq : x.q = 1) : Calls Try.prog 12 #[.pointer (some ⟨pt, 0, none⟩), rqV u vl, stV x] w (DoZ w base pt vb vr vl t u x) := by
  have mixed : Try.prog.follows .mixedOrders = true := by kernel_rfl
  have HK := Lib.hid hkl
  have HWF := Lib.hid hwu
  have HLN := Lib.hid hln1
  have HL9 := Lib.hid hl9
  have HM := Lib.hid h
  have HA := Lib.hid ha
  obtain ⟨ab, cb, hvb, hcb⟩ := hkl.form
  subst hvb
  have HQ := Lib.hid (doQ_new w u (.slice ab u.l.length cb) x)
  rw [show (rqR ⟨⟨0, 0⟩, ⟨0, 0⟩, []⟩ (.slice none 0 0)).toArray = #[.int .i64 0, .int .i64 0, .int .i64 0, .int .i64 0, .int .i64 0, .int .i64 0, .slice none 0 0] from rfl] at HQ
  have p0 := HQ.out.p.cell 0
  have p1 := HQ.out.p.cell 1
  have p2 := HQ.out.p.cell 2
  have p3 := HQ.out.p.cell 3
  have p4 := HQ.out.p.range 4 (sR x.s) rfl
  have hrs := rangeAll HQ.out.s
  rw [show rqV u (.slice ab u.l.length cb) = .agg (rqR u (.slice ab u.l.length cb)).toArray from rfl, show stV x = .agg (stR x).toArray from rfl]
  clear h hl9 hwu hln1 hkl ha
  have hst : t.step x = (t.close x.k).1 := by unfold SpS.step; simp [hq]
  have hsu : u.step x = (u.close x.k).1 := by unfold SpS.step; simp [hq]
  unfold DoZ
  rw [hst, hsu]
  obtain ⟨R, hR⟩ : ∃ R, (u.close x.k) = R := ⟨_, rfl⟩
  have HR := Lib.hid hR
  have HRC := Lib.hid (rclose_any u (.slice ab u.l.length cb) x.k _ HLN.out (HK.out.below HQ.out.below))
  rw [hR] at HRC
  rw [hR]
  clear hst hsu hR
  replace p0 : _ = some (Value.int IntKind.i64 1) := p0.trans (by show some (Value.int .i64 x.q) = _; rw [hq])
  replace p1 : _ = some (Value.int IntKind.i64 x.o) := p1.trans rfl
  replace p2 : _ = some (Value.int IntKind.i64 x.k) := p2.trans rfl
  replace p3 : _ = some (Value.int IntKind.i64 x.n) := p3.trans rfl
  go_enter Try.func12, Try.ntmps12
  go_wp2_with (first
    | (refine plV rfl (rqV u (.slice ab u.l.length cb)) (exec_load_any 31 (.tmp 4) rfl w.heap.size 0 (rqR u (.slice ab u.l.length cb)) _ rfl hrs Try.underlying31 rfl refs_info) ?_)
    | (go_at_call 42; refine HRC.out.mono ?_; rintro e w3 ⟨rfl, b3⟩; refine Hid.out ?_))
  refine Lib.hid ?_
  have i3 : IsK w3 (.slice ab u.l.length cb) R.1.l := by
    have h9 := HK.out.below (below_up HQ.out.below b3 HQ.out.below.size)
    rw [← HR.out]
    have e9 : (u.close x.k).1.l = u.l := by
      unfold SpS.close
      repeat' split
      all_goals first | rfl | exact setAr_l _ _ _
    rw [e9]
    exact h9
  have HQ3 := Lib.hid (HQ.out.up b3)
  obtain ⟨T, hT⟩ : ∃ T, R.1 = T := ⟨_, rfl⟩
  obtain ⟨C, hC⟩ : ∃ C, R.2 = C := ⟨_, rfl⟩
  have HT := Lib.hid hT
  have HC := Lib.hid hC
  rw [hT] at i3
  rw [hT, hC]
  obtain ⟨a3, c3, hv3, hc3⟩ := i3.form
  have hv4 : (.slice ab u.l.length cb : Value) = .slice a3 T.l.length c3 := hv3
  have HI3 := Lib.hid i3

  have h23 := b3.size
  have HG2 := Lib.hid HQ.out.r.lt
  have hba : Below w3.heap.size w3 (w3.alloc (.cells (rqR T (.slice ab u.l.length cb)).toArray 31)) := (Below.refl _ _).alloc (Nat.le_refl _) _
  have HQ4 := Lib.hid (HQ3.out.up hba)
  have HY4 := Lib.hid (Bx.new w3 31 (rqR T (.slice ab u.l.length cb)))
  have hsz4 : (w3.alloc (.cells (rqR T (.slice ab u.l.length cb)).toArray 31)).heap.size = w3.heap.size + 1 := by simp
  obtain ⟨g8, hg8⟩ : ∃ g8, g8 = w3.heap.size := ⟨_, rfl⟩
  have HG8 := Lib.hid hg8
  have HB3 := Lib.hid b3
  have HBA := Lib.hid hba
  clear b3 i3  hc3 hv3 hv4 hba p1 p2 p3 p4 hrs hT hC
  go_wp2_with (refine plS rfl (exec_store_fresh _ (.tmp 10) (.tmp 50) rfl (rqR T (.slice ab u.l.length cb)) _ w3.heap.size rfl rfl rfl refs_info rfl (rqR_one _ _ rfl)) ?_; refine Hid.out ?_)
  refine Lib.hid ?_
  have HS4 := Lib.hid hsz4
  clear hsz4
  generalize w3.alloc (.cells (rqR T (.slice ab u.l.length cb)).toArray 31) = w4 at *
  rw [← hg8] at HY4 ⊢
  clear hg8
  go_wp2
  have HQD := Lib.hid (HQ4.out.up (Below.refl _ _).drew)
  have HYD := Lib.hid (HY4.out.up (Below.refl _ _).drew)
  have HBD := Lib.hid (below_up HBA.out (Below.refl _ _).drew HBA.out.size)
  have HSD := Lib.hid (show w4.drew.heap.size = w3.heap.size + 1 from HS4.out)
  refine wp_region_noPanic ?_
  refine wp_region_held_drew (S := HeldDo w.heap.size g8 x T (.slice ab u.l.length cb)) (by kernel_rfl) (heldDo HQD.out.p HYD.out) (fun hHeld => ?_)
  generalize w4.drew = wd at *
  clear HQ4 HY4
  refine held_take (v := rqV T (.slice ab u.l.length cb)) 0 rfl (by kernel_rfl) (by kernel_rfl) (by kernel_rfl) (fun _ _ _ h => h) (by rfl) (fun W hSw => exec_load_any _ (.tmp 10) rfl g8 0 (rqR T (.slice ab u.l.length cb)) _ rfl hSw.2.2.2.2 Try.underlying31 rfl refs_info) (by assumption) ?_
  simp only [List.setIfInBounds_toArray, List.set_cons_zero, List.set_cons_succ]
  refine held_take (v := ?v270) 1 rfl (by kernel_rfl) (by kernel_rfl) (by kernel_rfl) (fun _ _ _ h => h) (by rfl) ?y270 (by assumption) ?_
  case y270 => (intro w hSw; unfold HeldDo at hSw; go_simp; (try with_reducible rfl); (try omega))
  simp only [List.setIfInBounds_toArray, List.set_cons_zero, List.set_cons_succ]
  refine held_take (v := ?v273) 2 rfl (by kernel_rfl) (by kernel_rfl) (by kernel_rfl) (fun _ _ _ h => h) (by rfl) ?y273 (by assumption) ?_
  case y273 => (intro w hSw; unfold HeldDo at hSw; go_simp; (try with_reducible rfl); (try omega))
  simp only [List.setIfInBounds_toArray, List.set_cons_zero, List.set_cons_succ]
  refine held_take (v := ?v276) 3 rfl (by kernel_rfl) (by kernel_rfl) (by kernel_rfl) (fun _ _ _ h => h) (by rfl) ?y276 (by assumption) ?_
  case y276 => (intro w hSw; unfold HeldDo at hSw; go_simp; (try with_reducible rfl); (try omega))
  simp only [List.setIfInBounds_toArray, List.set_cons_zero, List.set_cons_succ]
  refine held_take (v := ?v279) 5 rfl (by kernel_rfl) (by kernel_rfl) (by kernel_rfl) (fun _ _ _ h => h) (by rfl) ?y279 (by assumption) ?_
  case y279 => (intro w hSw; unfold HeldDo at hSw; go_simp; (try with_reducible rfl); (try omega))
  simp only [List.setIfInBounds_toArray, List.set_cons_zero, List.set_cons_succ]
  refine held_one 4 rfl (by kernel_rfl) (by rfl) (fun K hK => ?_)
  go_simp
  refine (close_any x.k wd (HM.out.up HQD.out.below)).mono ?_
  rintro e w6 ⟨rfl, s6⟩
  have hlow : ∀ g, w.heap.size ≤ g → ¬ OwnK pt vb vr g := fun g hg hk => by have := HM.out.low hk; omega
  have HP6 := Lib.hid (HQD.out.p.kp s6.kp (hlow _ (by omega)))
  have HR6 := Lib.hid (HQD.out.r.kp s6.kp (hlow _ (by omega)))
  have HY6 := Lib.hid (HYD.out.kp s6.kp (hlow _ (by have := HG8.out; have := HB3.out.size; have := HG2.out; omega)))
  have HD6 := Lib.hid (DoTo.of HM.out HA.out HQD.out.below (show w.heap.size ≤ w.heap.size + 1 + 1 by omega) HG2.out (vl := (.slice ab u.l.length cb)) (v' := (.slice ab u.l.length cb)) (w3 := w3) (.inl rfl) HB3.out.size (by rw [HSD.out]; omega) (IsC.below HI3.out HBD.out) s6 (rqR T (.slice ab u.l.length cb)).toArray)
  obtain ⟨D, hD⟩ : ∃ D, (t.close x.k).2 = D := ⟨_, rfl⟩
  have HD := Lib.hid hD
  rw [hD]
  refine hK.out _ _ (heldDo HP6.out HY6.out) (fun _ => ?_)
  (try simp only [Act.put, List.setIfInBounds_toArray, List.set_cons_zero, List.set_cons_succ])
  clear hK K s6 hlow hD
  refine held_take (v := .bool (D == C)) 6 rfl (by kernel_rfl) (by kernel_rfl) (by kernel_rfl) (fun _ _ _ h => h) (by rfl) (fun W hSw => exec_eql_err _ _ _ rfl D C rfl rfl) (by assumption) ?_
  simp only [List.setIfInBounds_toArray, List.set_cons_zero, List.set_cons_succ]
  refine held_none 7 rfl (by kernel_rfl) (by rfl) (fun K hK => ?_)
  refine wp_of_skip (exec_store_bxK _ (.tmp 6) (.tmp 52) rfl (w.heap.size + 1 + 1) (rqR T (.slice ab u.l.length cb)) _ rfl rfl HR6.out refs_info rfl (rqR_one _ _ rfl)) ?_
  have hP7 := HP6.out.rowOther (k := w.heap.size + 1 + 1) (by omega) (rqR T (.slice ab u.l.length cb)).toArray
  have hY7 := HY6.out.rowOther (k := w.heap.size + 1 + 1) (by have := HG8.out; have := HB3.out.size; have := HG2.out; omega) (rqR T (.slice ab u.l.length cb)).toArray
  refine hK.out _ _ (heldDo hP7 hY7) (fun _ => ?_)
  clear hK K hP7 hY7
  refine held_take (v := ?v305) 8 rfl (by kernel_rfl) (by kernel_rfl) (by kernel_rfl) (fun _ _ _ h => h) (by rfl) ?y305 (by assumption) ?_
  case y305 => (intro w hSw; unfold HeldDo at hSw; go_simp; (try with_reducible rfl); (try omega))
  simp only [List.setIfInBounds_toArray, List.set_cons_zero, List.set_cons_succ]
  refine wpAnyH_done (by kernel_rfl) ?_ _
  refine NoPanic.normal ?_
  have hxz := HR6.out.row (rqR T (.slice ab u.l.length cb))
  generalize w6.setRow (w.heap.size + 1 + 1) (rqR T (.slice ab u.l.length cb)).toArray = WZ at *
  have u0 : WZ.cell? ⟨w.heap.size + 1 + 1, 0, none⟩ = some (.int .i64 0) := by rw [hxz.cell]; rfl
  have u1 : WZ.cell? ⟨w.heap.size + 1 + 1, 1, none⟩ = some (.int .i64 0) := by rw [hxz.cell]; rfl
  have u2 : WZ.cell? ⟨w.heap.size + 1 + 1, 2, none⟩ = some (.int .i64 T.a1.f) := by rw [hxz.cell]; rfl
  have u3 : WZ.cell? ⟨w.heap.size + 1 + 1, 3, none⟩ = some (.int .i64 T.a1.l) := by rw [hxz.cell]; rfl
  have u4 : WZ.cell? ⟨w.heap.size + 1 + 1, 4, none⟩ = some (.int .i64 T.a2.f) := by rw [hxz.cell]; rfl
  have u5 : WZ.cell? ⟨w.heap.size + 1 + 1, 5, none⟩ = some (.int .i64 T.a2.l) := by rw [hxz.cell]; rfl
  have u6 : WZ.cell? ⟨w.heap.size + 1 + 1, 6, none⟩ = some ((.slice ab u.l.length cb)) := by rw [hxz.cell]; rfl
  go_wp2
  exact bodyPost_ret (v := .tuple #[rqV T (.slice ab u.l.length cb), .bool (D == C)]) (by simp [results, Try.results12, go_sem, rqV, rqR, u0, u1, u2, u3, u4, u5, u6]) rfl ⟨(.slice ab u.l.length cb), D == C, by rw [HT.out], fun e => by
    subst e
    have h1 := HD.out
    rw [HR.out, HC.out] at h1
    rw [h1]
    exact beq_self_eq_true _, by rw [HT.out]; exact HD6.out⟩
set_option maxRecDepth 100000 in
set_option maxHeartbeats 4000000 in
theorem do_take {base pt : Nat} {vb vr vl : Value} {t u : SpS} (x : StpS) (w : World) (h : SpM w base pt vb vr t) (hl9 : t.l.length ≤ 900) (hwu : WF u) (hln1 : u.l.length ≤ 1000) (hkl : IsK w vl u.l)
    (ha : ∀ k, vl.ownBlock = some k → ¬ OwnK pt vb vr k ∧ k < w.heap.size) (hq : x.q = 3) : Calls Try.prog 12 #[.pointer (some ⟨pt, 0, none⟩), rqV u vl, stV x] w (DoZ w base pt vb vr vl t u x) := by
  have mixed : Try.prog.follows .mixedOrders = true := by kernel_rfl
  have HK := Lib.hid hkl
  have HWF := Lib.hid hwu
  have HLN := Lib.hid hln1
  have HL9 := Lib.hid hl9
  have HM := Lib.hid h
  have HA := Lib.hid ha
  obtain ⟨ab, cb, hvb, hcb⟩ := hkl.form
  subst hvb
  have HQ := Lib.hid (doQ_new w u (.slice ab u.l.length cb) x)
  rw [show (rqR ⟨⟨0, 0⟩, ⟨0, 0⟩, []⟩ (.slice none 0 0)).toArray = #[.int .i64 0, .int .i64 0, .int .i64 0, .int .i64 0, .int .i64 0, .int .i64 0, .slice none 0 0] from rfl] at HQ
  have p0 := HQ.out.p.cell 0
  have p1 := HQ.out.p.cell 1
  have p2 := HQ.out.p.cell 2
  have p3 := HQ.out.p.cell 3
  have p4 := HQ.out.p.range 4 (sR x.s) rfl
  have hrs := rangeAll HQ.out.s
  rw [show rqV u (.slice ab u.l.length cb) = .agg (rqR u (.slice ab u.l.length cb)).toArray from rfl, show stV x = .agg (stR x).toArray from rfl]
  clear h hl9 hwu hln1 hkl ha
  have hst : t.step x = (t.take x.o x.s).1 := by unfold SpS.step; simp [hq]
  have hsu : u.step x = (u.take x.o x.s).1 := by unfold SpS.step; simp [hq]
  unfold DoZ
  rw [hst, hsu]
  obtain ⟨R, hR⟩ : ∃ R, (u.take x.o x.s) = R := ⟨_, rfl⟩
  have HR := Lib.hid hR
  have HRC := Lib.hid (rtake_any u (.slice ab u.l.length cb) x.o x.s _ HWF.out HLN.out (HK.out.below HQ.out.below))
  rw [hR] at HRC
  rw [hR]
  clear hst hsu hR
  replace p0 : _ = some (Value.int IntKind.i64 3) := p0.trans (by show some (Value.int .i64 x.q) = _; rw [hq])
  replace p1 : _ = some (Value.int IntKind.i64 x.o) := p1.trans rfl
  replace p2 : _ = some (Value.int IntKind.i64 x.k) := p2.trans rfl
  replace p3 : _ = some (Value.int IntKind.i64 x.n) := p3.trans rfl
  go_enter Try.func12, Try.ntmps12
  go_wp2_with (first
    | (refine plV rfl (rqV u (.slice ab u.l.length cb)) (exec_load_any 31 (.tmp 4) rfl w.heap.size 0 (rqR u (.slice ab u.l.length cb)) _ rfl hrs Try.underlying31 rfl refs_info) ?_)
    | (refine plV rfl (sV x.s) (exec_load_any 27 (.tmp 99) rfl (w.heap.size + 1) 4 (sR x.s) _ rfl p4 Try.underlying27 rfl sp_info) ?_)
    | (go_at_call 44; refine HRC.out.mono ?_; rintro e w3 ⟨v3, rfl, i3, n3, b3⟩; refine Hid.out ?_))
  refine Lib.hid ?_
  have HQ3 := Lib.hid (HQ.out.up b3)
  obtain ⟨T, hT⟩ : ∃ T, R.1 = T := ⟨_, rfl⟩
  obtain ⟨C, hC⟩ : ∃ C, R.2 = C := ⟨_, rfl⟩
  have HT := Lib.hid hT
  have HC := Lib.hid hC
  rw [hT] at i3
  rw [hT, hC]
  obtain ⟨a3, c3, hv3, hc3⟩ := i3.form
  subst hv3
  have HI3 := Lib.hid i3
  have HN3 := Lib.hid n3
  have h23 := b3.size
  have HG2 := Lib.hid HQ.out.r.lt
  have hba : Below w3.heap.size w3 (w3.alloc (.cells (rqR T (.slice a3 T.l.length c3)).toArray 31)) := (Below.refl _ _).alloc (Nat.le_refl _) _
  have HQ4 := Lib.hid (HQ3.out.up hba)
  have HY4 := Lib.hid (Bx.new w3 31 (rqR T (.slice a3 T.l.length c3)))
  have hsz4 : (w3.alloc (.cells (rqR T (.slice a3 T.l.length c3)).toArray 31)).heap.size = w3.heap.size + 1 := by simp
  obtain ⟨g8, hg8⟩ : ∃ g8, g8 = w3.heap.size := ⟨_, rfl⟩
  have HG8 := Lib.hid hg8
  have HB3 := Lib.hid b3
  have HBA := Lib.hid hba
  clear b3 i3 n3 hc3 hba p1 p2 p3 p4 hrs hT hC
  go_wp2_with (refine plS rfl (exec_store_fresh _ (.tmp 17) (.tmp 102) rfl (rqR T (.slice a3 T.l.length c3)) _ w3.heap.size rfl rfl rfl refs_info rfl (rqR_one _ _ rfl)) ?_; refine Hid.out ?_)
  refine Lib.hid ?_
  have HS4 := Lib.hid hsz4
  clear hsz4
  generalize w3.alloc (.cells (rqR T (.slice a3 T.l.length c3)).toArray 31) = w4 at *
  rw [← hg8] at HY4 ⊢
  clear hg8
  go_wp2
  have HQD := Lib.hid (HQ4.out.up (Below.refl _ _).drew)
  have HYD := Lib.hid (HY4.out.up (Below.refl _ _).drew)
  have HBD := Lib.hid (below_up HBA.out (Below.refl _ _).drew HBA.out.size)
  have HSD := Lib.hid (show w4.drew.heap.size = w3.heap.size + 1 from HS4.out)
  refine wp_region_noPanic ?_
  refine wp_region_held_drew (S := HeldDo w.heap.size g8 x T (.slice a3 T.l.length c3)) (by kernel_rfl) (heldDo HQD.out.p HYD.out) (fun hHeld => ?_)
  generalize w4.drew = wd at *
  clear HQ4 HY4
  refine held_take (v := rqV T (.slice a3 T.l.length c3)) 0 rfl (by kernel_rfl) (by kernel_rfl) (by kernel_rfl) (fun _ _ _ h => h) (by rfl) (fun W hSw => exec_load_any _ (.tmp 17) rfl g8 0 (rqR T (.slice a3 T.l.length c3)) _ rfl hSw.2.2.2.2 Try.underlying31 rfl refs_info) (by assumption) ?_
  simp only [List.setIfInBounds_toArray, List.set_cons_zero, List.set_cons_succ]
  refine held_take (v := ?v409) 1 rfl (by kernel_rfl) (by kernel_rfl) (by kernel_rfl) (fun _ _ _ h => h) (by rfl) ?y409 (by assumption) ?_
  case y409 => (intro w hSw; unfold HeldDo at hSw; go_simp; (try with_reducible rfl); (try omega))
  simp only [List.setIfInBounds_toArray, List.set_cons_zero, List.set_cons_succ]
  refine held_take (v := ?v412) 2 rfl (by kernel_rfl) (by kernel_rfl) (by kernel_rfl) (fun _ _ _ h => h) (by rfl) ?y412 (by assumption) ?_
  case y412 => (intro w hSw; unfold HeldDo at hSw; go_simp; (try with_reducible rfl); (try omega))
  simp only [List.setIfInBounds_toArray, List.set_cons_zero, List.set_cons_succ]
  refine held_take (v := ?v415) 3 rfl (by kernel_rfl) (by kernel_rfl) (by kernel_rfl) (fun _ _ _ h => h) (by rfl) ?y415 (by assumption) ?_
  case y415 => (intro w hSw; unfold HeldDo at hSw; go_simp; (try with_reducible rfl); (try omega))
  simp only [List.setIfInBounds_toArray, List.set_cons_zero, List.set_cons_succ]
  refine held_take (v := ?v418) 4 rfl (by kernel_rfl) (by kernel_rfl) (by kernel_rfl) (fun _ _ _ h => h) (by rfl) ?y418 (by assumption) ?_
  case y418 => (intro w hSw; unfold HeldDo at hSw; go_simp; (try with_reducible rfl); (try omega))
  simp only [List.setIfInBounds_toArray, List.set_cons_zero, List.set_cons_succ]
  refine held_take (v := sV x.s) 5 rfl (by kernel_rfl) (by kernel_rfl) (by kernel_rfl) (fun _ _ _ h => h) (by rfl) (fun W hSw => exec_load_any _ (.tmp 108) rfl (w.heap.size + 1) 4 (sR x.s) _ rfl hSw.2.2.2.1 Try.underlying27 rfl sp_info) (by assumption) ?_
  simp only [List.setIfInBounds_toArray, List.set_cons_zero, List.set_cons_succ]
  refine held_take (v := ?v423) 7 rfl (by kernel_rfl) (by kernel_rfl) (by kernel_rfl) (fun _ _ _ h => h) (by rfl) ?y423 (by assumption) ?_
  case y423 => (intro w hSw; unfold HeldDo at hSw; go_simp; (try with_reducible rfl); (try omega))
  simp only [List.setIfInBounds_toArray, List.set_cons_zero, List.set_cons_succ]
  refine held_one 6 rfl (by kernel_rfl) (by rfl) (fun K hK => ?_)
  go_simp
  refine (take_any x.o x.s wd (HM.out.up HQD.out.below) HL9.out).mono ?_
  rintro e w6 ⟨rfl, s6⟩
  have hlow : ∀ g, w.heap.size ≤ g → ¬ OwnK pt vb vr g := fun g hg hk => by have := HM.out.low hk; omega
  have HP6 := Lib.hid (HQD.out.p.kp s6.kp (hlow _ (by omega)))
  have HR6 := Lib.hid (HQD.out.r.kp s6.kp (hlow _ (by omega)))
  have HY6 := Lib.hid (HYD.out.kp s6.kp (hlow _ (by have := HG8.out; have := HB3.out.size; have := HG2.out; omega)))
  have HD6 := Lib.hid (DoTo.of HM.out HA.out HQD.out.below (show w.heap.size ≤ w.heap.size + 1 + 1 by omega) HG2.out (vl := (.slice ab u.l.length cb)) (v' := (.slice a3 T.l.length c3)) (w3 := w3) HN3.out HB3.out.size (by rw [HSD.out]; omega) (IsC.below HI3.out HBD.out) s6 (rqR T (.slice a3 T.l.length c3)).toArray)
  obtain ⟨D, hD⟩ : ∃ D, (t.take x.o x.s).2 = D := ⟨_, rfl⟩
  have HD := Lib.hid hD
  rw [hD]
  refine hK.out _ _ (heldDo HP6.out HY6.out) (fun _ => ?_)
  (try simp only [Act.put, List.setIfInBounds_toArray, List.set_cons_zero, List.set_cons_succ])
  clear hK K s6 hlow hD
  refine held_take (v := .bool (D == C)) 8 rfl (by kernel_rfl) (by kernel_rfl) (by kernel_rfl) (fun _ _ _ h => h) (by rfl) (fun W hSw => exec_eql_err _ _ _ rfl D C rfl rfl) (by assumption) ?_
  simp only [List.setIfInBounds_toArray, List.set_cons_zero, List.set_cons_succ]
  refine held_none 9 rfl (by kernel_rfl) (by rfl) (fun K hK => ?_)
  refine wp_of_skip (exec_store_bxK _ (.tmp 6) (.tmp 104) rfl (w.heap.size + 1 + 1) (rqR T (.slice a3 T.l.length c3)) _ rfl rfl HR6.out refs_info rfl (rqR_one _ _ rfl)) ?_
  have hP7 := HP6.out.rowOther (k := w.heap.size + 1 + 1) (by omega) (rqR T (.slice a3 T.l.length c3)).toArray
  have hY7 := HY6.out.rowOther (k := w.heap.size + 1 + 1) (by have := HG8.out; have := HB3.out.size; have := HG2.out; omega) (rqR T (.slice a3 T.l.length c3)).toArray
  refine hK.out _ _ (heldDo hP7 hY7) (fun _ => ?_)
  clear hK K hP7 hY7
  refine held_take (v := ?v449) 10 rfl (by kernel_rfl) (by kernel_rfl) (by kernel_rfl) (fun _ _ _ h => h) (by rfl) ?y449 (by assumption) ?_
  case y449 => (intro w hSw; unfold HeldDo at hSw; go_simp; (try with_reducible rfl); (try omega))
  simp only [List.setIfInBounds_toArray, List.set_cons_zero, List.set_cons_succ]
  refine wpAnyH_done (by kernel_rfl) ?_ _
  refine NoPanic.normal ?_
  have hxz := HR6.out.row (rqR T (.slice a3 T.l.length c3))
  generalize w6.setRow (w.heap.size + 1 + 1) (rqR T (.slice a3 T.l.length c3)).toArray = WZ at *
  have u0 : WZ.cell? ⟨w.heap.size + 1 + 1, 0, none⟩ = some (.int .i64 0) := by rw [hxz.cell]; rfl
  have u1 : WZ.cell? ⟨w.heap.size + 1 + 1, 1, none⟩ = some (.int .i64 0) := by rw [hxz.cell]; rfl
  have u2 : WZ.cell? ⟨w.heap.size + 1 + 1, 2, none⟩ = some (.int .i64 T.a1.f) := by rw [hxz.cell]; rfl
  have u3 : WZ.cell? ⟨w.heap.size + 1 + 1, 3, none⟩ = some (.int .i64 T.a1.l) := by rw [hxz.cell]; rfl
  have u4 : WZ.cell? ⟨w.heap.size + 1 + 1, 4, none⟩ = some (.int .i64 T.a2.f) := by rw [hxz.cell]; rfl
  have u5 : WZ.cell? ⟨w.heap.size + 1 + 1, 5, none⟩ = some (.int .i64 T.a2.l) := by rw [hxz.cell]; rfl
  have u6 : WZ.cell? ⟨w.heap.size + 1 + 1, 6, none⟩ = some ((.slice a3 T.l.length c3)) := by rw [hxz.cell]; rfl
  go_wp2
  exact bodyPost_ret (v := .tuple #[rqV T (.slice a3 T.l.length c3), .bool (D == C)]) (by simp [results, Try.results12, go_sem, rqV, rqR, u0, u1, u2, u3, u4, u5, u6]) rfl ⟨(.slice a3 T.l.length c3), D == C, by rw [HT.out], fun e => by
    subst e
    have h1 := HD.out
    rw [HR.out, HC.out] at h1
    rw [h1]
    exact beq_self_eq_true _, by rw [HT.out]; exact HD6.out⟩
set_option maxRecDepth 100000 in
set_option maxHeartbeats 4000000 in
theorem do_free {base pt : Nat} {vb vr vl : Value} {t u : SpS} (x : StpS) (w : World) (h : SpM w base pt vb vr t) (hl9 : t.l.length ≤ 900) (hwu : WF u) (hln1 : u.l.length ≤ 1000) (hkl : IsK w vl u.l)
    (ha : ∀ k, vl.ownBlock = some k → ¬ OwnK pt vb vr k ∧ k < w.heap.size) (hq : x.q = 4) : Calls Try.prog 12 #[.pointer (some ⟨pt, 0, none⟩), rqV u vl, stV x] w (DoZ w base pt vb vr vl t u x) := by
  have mixed : Try.prog.follows .mixedOrders = true := by kernel_rfl
  have HK := Lib.hid hkl
  have HWF := Lib.hid hwu
  have HLN := Lib.hid hln1
  have HL9 := Lib.hid hl9
  have HM := Lib.hid h
  have HA := Lib.hid ha
  obtain ⟨ab, cb, hvb, hcb⟩ := hkl.form
  subst hvb
  have HQ := Lib.hid (doQ_new w u (.slice ab u.l.length cb) x)
  rw [show (rqR ⟨⟨0, 0⟩, ⟨0, 0⟩, []⟩ (.slice none 0 0)).toArray = #[.int .i64 0, .int .i64 0, .int .i64 0, .int .i64 0, .int .i64 0, .int .i64 0, .slice none 0 0] from rfl] at HQ
  have p0 := HQ.out.p.cell 0
  have p1 := HQ.out.p.cell 1
  have p2 := HQ.out.p.cell 2
  have p3 := HQ.out.p.cell 3
  have p4 := HQ.out.p.range 4 (sR x.s) rfl
  have hrs := rangeAll HQ.out.s
  rw [show rqV u (.slice ab u.l.length cb) = .agg (rqR u (.slice ab u.l.length cb)).toArray from rfl, show stV x = .agg (stR x).toArray from rfl]
  clear h hl9 hwu hln1 hkl ha
  have hst : t.step x = (t.free x.o x.s).1 := by unfold SpS.step; simp [hq]
  have hsu : u.step x = (u.free x.o x.s).1 := by unfold SpS.step; simp [hq]
  unfold DoZ
  rw [hst, hsu]
  obtain ⟨R, hR⟩ : ∃ R, (u.free x.o x.s) = R := ⟨_, rfl⟩
  have HR := Lib.hid hR
  have HRC := Lib.hid (rfree_any u (.slice ab u.l.length cb) x.o x.s _ HLN.out (HK.out.below HQ.out.below))
  rw [hR] at HRC
  rw [hR]
  clear hst hsu hR
  replace p0 : _ = some (Value.int IntKind.i64 4) := p0.trans (by show some (Value.int .i64 x.q) = _; rw [hq])
  replace p1 : _ = some (Value.int IntKind.i64 x.o) := p1.trans rfl
  replace p2 : _ = some (Value.int IntKind.i64 x.k) := p2.trans rfl
  replace p3 : _ = some (Value.int IntKind.i64 x.n) := p3.trans rfl
  go_enter Try.func12, Try.ntmps12
  go_wp2_with (first
    | (refine plV rfl (rqV u (.slice ab u.l.length cb)) (exec_load_any 31 (.tmp 4) rfl w.heap.size 0 (rqR u (.slice ab u.l.length cb)) _ rfl hrs Try.underlying31 rfl refs_info) ?_)
    | (refine plV rfl (sV x.s) (exec_load_any 27 (.tmp 119) rfl (w.heap.size + 1) 4 (sR x.s) _ rfl p4 Try.underlying27 rfl sp_info) ?_)
    | (go_at_call 45; refine HRC.out.mono ?_; rintro e w3 ⟨v3, rfl, i3, n3, b3⟩; refine Hid.out ?_))
  refine Lib.hid ?_
  have HQ3 := Lib.hid (HQ.out.up b3)
  obtain ⟨T, hT⟩ : ∃ T, R.1 = T := ⟨_, rfl⟩
  obtain ⟨C, hC⟩ : ∃ C, R.2 = C := ⟨_, rfl⟩
  have HT := Lib.hid hT
  have HC := Lib.hid hC
  rw [hT] at i3
  rw [hT, hC]
  obtain ⟨a3, c3, hv3, hc3⟩ := i3.form
  subst hv3
  have HI3 := Lib.hid i3
  have HN3 := Lib.hid n3
  have h23 := b3.size
  have HG2 := Lib.hid HQ.out.r.lt
  have hba : Below w3.heap.size w3 (w3.alloc (.cells (rqR T (.slice a3 T.l.length c3)).toArray 31)) := (Below.refl _ _).alloc (Nat.le_refl _) _
  have HQ4 := Lib.hid (HQ3.out.up hba)
  have HY4 := Lib.hid (Bx.new w3 31 (rqR T (.slice a3 T.l.length c3)))
  have hsz4 : (w3.alloc (.cells (rqR T (.slice a3 T.l.length c3)).toArray 31)).heap.size = w3.heap.size + 1 := by simp
  obtain ⟨g8, hg8⟩ : ∃ g8, g8 = w3.heap.size := ⟨_, rfl⟩
  have HG8 := Lib.hid hg8
  have HB3 := Lib.hid b3
  have HBA := Lib.hid hba
  clear b3 i3 n3 hc3 hba p1 p2 p3 p4 hrs hT hC
  go_wp2_with (refine plS rfl (exec_store_fresh _ (.tmp 19) (.tmp 122) rfl (rqR T (.slice a3 T.l.length c3)) _ w3.heap.size rfl rfl rfl refs_info rfl (rqR_one _ _ rfl)) ?_; refine Hid.out ?_)
  refine Lib.hid ?_
  have HS4 := Lib.hid hsz4
  clear hsz4
  generalize w3.alloc (.cells (rqR T (.slice a3 T.l.length c3)).toArray 31) = w4 at *
  rw [← hg8] at HY4 ⊢
  clear hg8
  go_wp2
  have HQD := Lib.hid (HQ4.out.up (Below.refl _ _).drew)
  have HYD := Lib.hid (HY4.out.up (Below.refl _ _).drew)
  have HBD := Lib.hid (below_up HBA.out (Below.refl _ _).drew HBA.out.size)
  have HSD := Lib.hid (show w4.drew.heap.size = w3.heap.size + 1 from HS4.out)
  refine wp_region_noPanic ?_
  refine wp_region_held_drew (S := HeldDo w.heap.size g8 x T (.slice a3 T.l.length c3)) (by kernel_rfl) (heldDo HQD.out.p HYD.out) (fun hHeld => ?_)
  generalize w4.drew = wd at *
  clear HQ4 HY4
  refine held_take (v := rqV T (.slice a3 T.l.length c3)) 0 rfl (by kernel_rfl) (by kernel_rfl) (by kernel_rfl) (fun _ _ _ h => h) (by rfl) (fun W hSw => exec_load_any _ (.tmp 19) rfl g8 0 (rqR T (.slice a3 T.l.length c3)) _ rfl hSw.2.2.2.2 Try.underlying31 rfl refs_info) (by assumption) ?_
  simp only [List.setIfInBounds_toArray, List.set_cons_zero, List.set_cons_succ]
  refine held_take (v := ?v553) 1 rfl (by kernel_rfl) (by kernel_rfl) (by kernel_rfl) (fun _ _ _ h => h) (by rfl) ?y553 (by assumption) ?_
  case y553 => (intro w hSw; unfold HeldDo at hSw; go_simp; (try with_reducible rfl); (try omega))
  simp only [List.setIfInBounds_toArray, List.set_cons_zero, List.set_cons_succ]
  refine held_take (v := ?v556) 2 rfl (by kernel_rfl) (by kernel_rfl) (by kernel_rfl) (fun _ _ _ h => h) (by rfl) ?y556 (by assumption) ?_
  case y556 => (intro w hSw; unfold HeldDo at hSw; go_simp; (try with_reducible rfl); (try omega))
  simp only [List.setIfInBounds_toArray, List.set_cons_zero, List.set_cons_succ]
  refine held_take (v := ?v559) 3 rfl (by kernel_rfl) (by kernel_rfl) (by kernel_rfl) (fun _ _ _ h => h) (by rfl) ?y559 (by assumption) ?_
  case y559 => (intro w hSw; unfold HeldDo at hSw; go_simp; (try with_reducible rfl); (try omega))
  simp only [List.setIfInBounds_toArray, List.set_cons_zero, List.set_cons_succ]
  refine held_take (v := ?v562) 4 rfl (by kernel_rfl) (by kernel_rfl) (by kernel_rfl) (fun _ _ _ h => h) (by rfl) ?y562 (by assumption) ?_
  case y562 => (intro w hSw; unfold HeldDo at hSw; go_simp; (try with_reducible rfl); (try omega))
  simp only [List.setIfInBounds_toArray, List.set_cons_zero, List.set_cons_succ]
  refine held_take (v := sV x.s) 5 rfl (by kernel_rfl) (by kernel_rfl) (by kernel_rfl) (fun _ _ _ h => h) (by rfl) (fun W hSw => exec_load_any _ (.tmp 128) rfl (w.heap.size + 1) 4 (sR x.s) _ rfl hSw.2.2.2.1 Try.underlying27 rfl sp_info) (by assumption) ?_
  simp only [List.setIfInBounds_toArray, List.set_cons_zero, List.set_cons_succ]
  refine held_take (v := ?v567) 7 rfl (by kernel_rfl) (by kernel_rfl) (by kernel_rfl) (fun _ _ _ h => h) (by rfl) ?y567 (by assumption) ?_
  case y567 => (intro w hSw; unfold HeldDo at hSw; go_simp; (try with_reducible rfl); (try omega))
  simp only [List.setIfInBounds_toArray, List.set_cons_zero, List.set_cons_succ]
  refine held_one 6 rfl (by kernel_rfl) (by rfl) (fun K hK => ?_)
  go_simp
  refine (free_any x.o x.s wd (HM.out.up HQD.out.below) HL9.out).mono ?_
  rintro e w6 ⟨rfl, s6⟩
  have hlow : ∀ g, w.heap.size ≤ g → ¬ OwnK pt vb vr g := fun g hg hk => by have := HM.out.low hk; omega
  have HP6 := Lib.hid (HQD.out.p.kp s6.kp (hlow _ (by omega)))
  have HR6 := Lib.hid (HQD.out.r.kp s6.kp (hlow _ (by omega)))
  have HY6 := Lib.hid (HYD.out.kp s6.kp (hlow _ (by have := HG8.out; have := HB3.out.size; have := HG2.out; omega)))
  have HD6 := Lib.hid (DoTo.of HM.out HA.out HQD.out.below (show w.heap.size ≤ w.heap.size + 1 + 1 by omega) HG2.out (vl := (.slice ab u.l.length cb)) (v' := (.slice a3 T.l.length c3)) (w3 := w3) HN3.out HB3.out.size (by rw [HSD.out]; omega) (IsC.below HI3.out HBD.out) s6 (rqR T (.slice a3 T.l.length c3)).toArray)
  obtain ⟨D, hD⟩ : ∃ D, (t.free x.o x.s).2 = D := ⟨_, rfl⟩
  have HD := Lib.hid hD
  rw [hD]
  refine hK.out _ _ (heldDo HP6.out HY6.out) (fun _ => ?_)
  (try simp only [Act.put, List.setIfInBounds_toArray, List.set_cons_zero, List.set_cons_succ])
  clear hK K s6 hlow hD
  refine held_take (v := .bool (D == C)) 8 rfl (by kernel_rfl) (by kernel_rfl) (by kernel_rfl) (fun _ _ _ h => h) (by rfl) (fun W hSw => exec_eql_err _ _ _ rfl D C rfl rfl) (by assumption) ?_
  simp only [List.setIfInBounds_toArray, List.set_cons_zero, List.set_cons_succ]
  refine held_none 9 rfl (by kernel_rfl) (by rfl) (fun K hK => ?_)
  refine wp_of_skip (exec_store_bxK _ (.tmp 6) (.tmp 124) rfl (w.heap.size + 1 + 1) (rqR T (.slice a3 T.l.length c3)) _ rfl rfl HR6.out refs_info rfl (rqR_one _ _ rfl)) ?_
  have hP7 := HP6.out.rowOther (k := w.heap.size + 1 + 1) (by omega) (rqR T (.slice a3 T.l.length c3)).toArray
  have hY7 := HY6.out.rowOther (k := w.heap.size + 1 + 1) (by have := HG8.out; have := HB3.out.size; have := HG2.out; omega) (rqR T (.slice a3 T.l.length c3)).toArray
  refine hK.out _ _ (heldDo hP7 hY7) (fun _ => ?_)
  clear hK K hP7 hY7
  refine held_take (v := ?v593) 10 rfl (by kernel_rfl) (by kernel_rfl) (by kernel_rfl) (fun _ _ _ h => h) (by rfl) ?y593 (by assumption) ?_
  case y593 => (intro w hSw; unfold HeldDo at hSw; go_simp; (try with_reducible rfl); (try omega))
  simp only [List.setIfInBounds_toArray, List.set_cons_zero, List.set_cons_succ]
  refine wpAnyH_done (by kernel_rfl) ?_ _
  refine NoPanic.normal ?_
  have hxz := HR6.out.row (rqR T (.slice a3 T.l.length c3))
  generalize w6.setRow (w.heap.size + 1 + 1) (rqR T (.slice a3 T.l.length c3)).toArray = WZ at *
  have u0 : WZ.cell? ⟨w.heap.size + 1 + 1, 0, none⟩ = some (.int .i64 0) := by rw [hxz.cell]; rfl
  have u1 : WZ.cell? ⟨w.heap.size + 1 + 1, 1, none⟩ = some (.int .i64 0) := by rw [hxz.cell]; rfl
  have u2 : WZ.cell? ⟨w.heap.size + 1 + 1, 2, none⟩ = some (.int .i64 T.a1.f) := by rw [hxz.cell]; rfl
  have u3 : WZ.cell? ⟨w.heap.size + 1 + 1, 3, none⟩ = some (.int .i64 T.a1.l) := by rw [hxz.cell]; rfl
  have u4 : WZ.cell? ⟨w.heap.size + 1 + 1, 4, none⟩ = some (.int .i64 T.a2.f) := by rw [hxz.cell]; rfl
  have u5 : WZ.cell? ⟨w.heap.size + 1 + 1, 5, none⟩ = some (.int .i64 T.a2.l) := by rw [hxz.cell]; rfl
  have u6 : WZ.cell? ⟨w.heap.size + 1 + 1, 6, none⟩ = some ((.slice a3 T.l.length c3)) := by rw [hxz.cell]; rfl
  go_wp2
  exact bodyPost_ret (v := .tuple #[rqV T (.slice a3 T.l.length c3), .bool (D == C)]) (by simp [results, Try.results12, go_sem, rqV, rqR, u0, u1, u2, u3, u4, u5, u6]) rfl ⟨(.slice a3 T.l.length c3), D == C, by rw [HT.out], fun e => by
    subst e
    have h1 := HD.out
    rw [HR.out, HC.out] at h1
    rw [h1]
    exact beq_self_eq_true _, by rw [HT.out]; exact HD6.out⟩
set_option maxRecDepth 100000 in
set_option maxHeartbeats 4000000 in
theorem do_none {base pt : Nat} {vb vr vl : Value} {t u : SpS} (x : StpS) (w : World) (h : SpM w base pt vb vr t) (hl9 : t.l.length ≤ 900) (hwu : WF u) (hln1 : u.l.length ≤ 1000) (hkl : IsK w vl u.l)
    (ha : ∀ k, vl.ownBlock = some k → ¬ OwnK pt vb vr k ∧ k < w.heap.size) (hq0 : ¬ x.q = 0) (hq1 : ¬ x.q = 1) (hq2 : ¬ x.q = 2) (hq3 : ¬ x.q = 3) (hq4 : ¬ x.q = 4) : Calls Try.prog 12 #[.pointer (some ⟨pt, 0, none⟩), rqV u vl, stV x] w (DoZ w base pt vb vr vl t u x) := by
  have mixed : Try.prog.follows .mixedOrders = true := by kernel_rfl
  have HK := Lib.hid hkl
  have HWF := Lib.hid hwu
  have HLN := Lib.hid hln1
  have HL9 := Lib.hid hl9
  have HM := Lib.hid h
  have HA := Lib.hid ha
  obtain ⟨ab, cb, hvb, hcb⟩ := hkl.form
  subst hvb
  have HQ := Lib.hid (doQ_new w u (.slice ab u.l.length cb) x)
  rw [show (rqR ⟨⟨0, 0⟩, ⟨0, 0⟩, []⟩ (.slice none 0 0)).toArray = #[.int .i64 0, .int .i64 0, .int .i64 0, .int .i64 0, .int .i64 0, .int .i64 0, .slice none 0 0] from rfl] at HQ
  have p0 := HQ.out.p.cell 0
  have p1 := HQ.out.p.cell 1
  have p2 := HQ.out.p.cell 2
  have p3 := HQ.out.p.cell 3
  have p4 := HQ.out.p.range 4 (sR x.s) rfl
  have hrs := rangeAll HQ.out.s
  rw [show rqV u (.slice ab u.l.length cb) = .agg (rqR u (.slice ab u.l.length cb)).toArray from rfl, show stV x = .agg (stR x).toArray from rfl]
  clear h hl9 hwu hln1 hkl ha
  have hst : ∀ t : SpS, t.step x = t := fun t => by unfold SpS.step; rw [if_neg hq0, if_neg hq1, if_neg hq2, if_neg hq3, if_neg hq4]
  unfold DoZ
  rw [hst, hst]
  clear hst
  replace p0 : _ = some (Value.int IntKind.i64 x.q) := p0.trans rfl
  replace p1 : _ = some (Value.int IntKind.i64 x.o) := p1.trans rfl
  replace p2 : _ = some (Value.int IntKind.i64 x.k) := p2.trans rfl
  replace p3 : _ = some (Value.int IntKind.i64 x.n) := p3.trans rfl
  have hb0 : (x.q == 0) = false := beq_eq_false_iff_ne.2 hq0
  have hb1 : (x.q == 1) = false := beq_eq_false_iff_ne.2 hq1
  have hb2 : (x.q == 2) = false := beq_eq_false_iff_ne.2 hq2
  have hb3 : (x.q == 3) = false := beq_eq_false_iff_ne.2 hq3
  have hb4 : (x.q == 4) = false := beq_eq_false_iff_ne.2 hq4
  go_enter Try.func12, Try.ntmps12
  go_wp2_with (first
    | (refine plV rfl (rqV u (.slice ab u.l.length cb)) (exec_load_any 31 (.tmp 4) rfl w.heap.size 0 (rqR u (.slice ab u.l.length cb)) _ rfl hrs Try.underlying31 rfl refs_info) ?_)
    | (refine plS rfl (exec_store_bxK _ (.tmp 6) (.tmp 133) rfl (w.heap.size + 1 + 1) (rqR u (.slice ab u.l.length cb)) _ rfl rfl HQ.out.r refs_info rfl (rqR_one _ _ rfl)) ?_))
  have hxz := HQ.out.r.row (rqR u (.slice ab u.l.length cb))
  have HD6 := Lib.hid (DoTo.of HM.out HA.out HQ.out.below (show w.heap.size ≤ w.heap.size + 1 + 1 by omega) HQ.out.r.lt (vl := (.slice ab u.l.length cb)) (v' := (.slice ab u.l.length cb)) (u' := u) (.inl rfl) (Nat.le_refl _) (Nat.le_refl _) (IsC.below HK.out HQ.out.below) (SpTo.same (HM.out.up HQ.out.below) (Below.refl _ _)) (rqR u (.slice ab u.l.length cb)).toArray)
  generalize (((w.alloc (.cells (rqR u (.slice ab u.l.length cb)).toArray 31)).alloc (.cells (stR x).toArray 35)).alloc (.cells #[.int .i64 0, .int .i64 0, .int .i64 0, .int .i64 0, .int .i64 0, .int .i64 0, .slice none 0 0] 31)).setRow (w.heap.size + 1 + 1) (rqR u (.slice ab u.l.length cb)).toArray = WZ at hxz HD6 ⊢
  have u0 : WZ.cell? ⟨w.heap.size + 1 + 1, 0, none⟩ = some (.int .i64 0) := by rw [hxz.cell]; rfl
  have u1 : WZ.cell? ⟨w.heap.size + 1 + 1, 1, none⟩ = some (.int .i64 0) := by rw [hxz.cell]; rfl
  have u2 : WZ.cell? ⟨w.heap.size + 1 + 1, 2, none⟩ = some (.int .i64 u.a1.f) := by rw [hxz.cell]; rfl
  have u3 : WZ.cell? ⟨w.heap.size + 1 + 1, 3, none⟩ = some (.int .i64 u.a1.l) := by rw [hxz.cell]; rfl
  have u4 : WZ.cell? ⟨w.heap.size + 1 + 1, 4, none⟩ = some (.int .i64 u.a2.f) := by rw [hxz.cell]; rfl
  have u5 : WZ.cell? ⟨w.heap.size + 1 + 1, 5, none⟩ = some (.int .i64 u.a2.l) := by rw [hxz.cell]; rfl
  have u6 : WZ.cell? ⟨w.heap.size + 1 + 1, 6, none⟩ = some ((.slice ab u.l.length cb)) := by rw [hxz.cell]; rfl
  exact bodyPost_ret (v := .tuple #[rqV u (.slice ab u.l.length cb), .bool true]) (by simp [results, Try.results12, go_sem, rqV, rqR, u0, u1, u2, u3, u4, u5, u6]) rfl ⟨(.slice ab u.l.length cb), true, rfl, fun _ => rfl, HD6.out⟩
set_option maxRecDepth 100000 in
set_option maxHeartbeats 4000000 in
theorem do_draw {base pt : Nat} {vb vr vl : Value} {t u : SpS} (x : StpS) (w : World) (h : SpM w base pt vb vr t) (hl9 : t.l.length ≤ 900) (hwu : WF u) (hln1 : u.l.length ≤ 1000) (hkl : IsK w vl u.l)
    (ha : ∀ k, vl.ownBlock = some k → ¬ OwnK pt vb vr k ∧ k < w.heap.size) (hq : x.q = 2) : Calls Try.prog 12 #[.pointer (some ⟨pt, 0, none⟩), rqV u vl, stV x] w (DoZ w base pt vb vr vl t u x) := by
  have mixed : Try.prog.follows .mixedOrders = true := by kernel_rfl
  have HK := Lib.hid hkl
  have HWF := Lib.hid hwu
  have HLN := Lib.hid hln1
  have HL9 := Lib.hid hl9
  have HM := Lib.hid h
  have HA := Lib.hid ha
  obtain ⟨ab, cb, hvb, hcb⟩ := hkl.form
  subst hvb
  have HQ := Lib.hid (doQ_new w u (.slice ab u.l.length cb) x)
  rw [show (rqR ⟨⟨0, 0⟩, ⟨0, 0⟩, []⟩ (.slice none 0 0)).toArray = #[.int .i64 0, .int .i64 0, .int .i64 0, .int .i64 0, .int .i64 0, .int .i64 0, .slice none 0 0] from rfl] at HQ
  have p0 := HQ.out.p.cell 0
  have p1 := HQ.out.p.cell 1
  have p2 := HQ.out.p.cell 2
  have p3 := HQ.out.p.cell 3
  have p4 := HQ.out.p.range 4 (sR x.s) rfl
  have hrs := rangeAll HQ.out.s
  rw [show rqV u (.slice ab u.l.length cb) = .agg (rqR u (.slice ab u.l.length cb)).toArray from rfl, show stV x = .agg (stR x).toArray from rfl]
  clear h hl9 hwu hln1 hkl ha
  have hst : t.step x = (t.draw x.o x.k x.n).1 := by unfold SpS.step; simp [hq]
  have hsu : u.step x = (u.draw x.o x.k x.n).1 := by unfold SpS.step; simp [hq]
  unfold DoZ
  rw [hst, hsu]
  obtain ⟨R, hR⟩ : ∃ R, u.draw x.o x.k x.n = R := ⟨_, rfl⟩
  have HR := Lib.hid hR
  have HRC := Lib.hid (rdraw_any u (.slice ab u.l.length cb) x.o x.k x.n _ HWF.out HLN.out (HK.out.below HQ.out.below))
  rw [hR] at HRC
  rw [hR]
  clear hst hsu hR p4
  replace p0 : _ = some (Value.int IntKind.i64 2) := p0.trans (by show some (Value.int .i64 x.q) = _; rw [hq])
  replace p1 : _ = some (Value.int IntKind.i64 x.o) := p1.trans rfl
  replace p2 : _ = some (Value.int IntKind.i64 x.k) := p2.trans rfl
  replace p3 : _ = some (Value.int IntKind.i64 x.n) := p3.trans rfl
  go_enter Try.func12, Try.ntmps12
  go_wp2_with (first
    | (refine plV rfl (rqV u (.slice ab u.l.length cb)) (exec_load_any 31 (.tmp 4) rfl w.heap.size 0 (rqR u (.slice ab u.l.length cb)) _ rfl hrs Try.underlying31 rfl refs_info) ?_)
    | (go_at_call 43; refine HRC.out.mono ?_; rintro e w3 ⟨v3, rfl, i3, n3, b3⟩; refine Hid.out ?_))
  refine Lib.hid ?_
  have HQ3 := Lib.hid (HQ.out.up b3)
  obtain ⟨T, hT⟩ : ∃ T, R.1 = T := ⟨_, rfl⟩
  obtain ⟨X, hX⟩ : ∃ X, R.2.1 = X := ⟨_, rfl⟩
  obtain ⟨C, hC⟩ : ∃ C, R.2.2 = C := ⟨_, rfl⟩
  have HT := Lib.hid hT
  have HX := Lib.hid hX
  have HC := Lib.hid hC
  rw [hT] at i3
  rw [hT, hX, hC]
  obtain ⟨a3, c3, hv3, hc3⟩ := i3.form
  subst hv3
  have HI3 := Lib.hid i3
  have HN3 := Lib.hid n3
  have HG2 := Lib.hid HQ.out.r.lt
  have HB3 := Lib.hid b3
  have hz1 : Below w3.heap.size w3 (w3.alloc (.cells #[.int .i64 0, .int .i64 0, .int .i64 0, .int .i64 0, .int .i64 0, .int .i64 0, .slice none 0 0] 31)) := (Below.refl _ _).alloc (Nat.le_refl _) _
  have hz2 : Below (w3.alloc (.cells #[.int .i64 0, .int .i64 0, .int .i64 0, .int .i64 0, .int .i64 0, .int .i64 0, .slice none 0 0] 31)).heap.size (w3.alloc (.cells #[.int .i64 0, .int .i64 0, .int .i64 0, .int .i64 0, .int .i64 0, .int .i64 0, .slice none 0 0] 31)) ((w3.alloc (.cells #[.int .i64 0, .int .i64 0, .int .i64 0, .int .i64 0, .int .i64 0, .int .i64 0, .slice none 0 0] 31)).alloc (.cells #[.int .i64 0, .int .i64 0] 27)) := (Below.refl _ _).alloc (Nat.le_refl _) _
  have hsz : (w3.alloc (.cells #[.int .i64 0, .int .i64 0, .int .i64 0, .int .i64 0, .int .i64 0, .int .i64 0, .slice none 0 0] 31)).heap.size = w3.heap.size + 1 := by simp
  have HY := Lib.hid (show Bx ((w3.alloc (.cells #[.int .i64 0, .int .i64 0, .int .i64 0, .int .i64 0, .int .i64 0, .int .i64 0, .slice none 0 0] 31)).alloc (.cells #[.int .i64 0, .int .i64 0] 27)) w3.heap.size 31 (rqR ⟨⟨0, 0⟩, ⟨0, 0⟩, []⟩ (.slice none 0 0)) from (Bx.new w3 31 (rqR ⟨⟨0, 0⟩, ⟨0, 0⟩, []⟩ (.slice none 0 0))).up hz2)
  have hx0 := Bx.new (w3.alloc (.cells #[.int .i64 0, .int .i64 0, .int .i64 0, .int .i64 0, .int .i64 0, .int .i64 0, .slice none 0 0] 31)) 27 (sR ⟨0, 0⟩)
  rw [hsz] at hx0
  have HX0 := Lib.hid (show Bx ((w3.alloc (.cells #[.int .i64 0, .int .i64 0, .int .i64 0, .int .i64 0, .int .i64 0, .int .i64 0, .slice none 0 0] 31)).alloc (.cells #[.int .i64 0, .int .i64 0] 27)) (w3.heap.size + 1) 27 (sR ⟨0, 0⟩) from hx0)
  have HBZ := Lib.hid (below_up hz1 hz2 hz1.size)
  have hsz2 : ((w3.alloc (.cells #[.int .i64 0, .int .i64 0, .int .i64 0, .int .i64 0, .int .i64 0, .int .i64 0, .slice none 0 0] 31)).alloc (.cells #[.int .i64 0, .int .i64 0] 27)).heap.size = w3.heap.size + 1 + 1 := by simp
  have HS2 := Lib.hid hsz2
  clear b3 i3 n3 hc3 hT hX hC hz1 hz2 hx0 hsz hsz2 p1 p2 p3 hrs
  go_wp2_with (first
    | (refine plS rfl (exec_store_bxK _ (.tmp 12) (.tmp 70) rfl w3.heap.size (rqR T (.slice a3 T.l.length c3)) _ rfl rfl HY.out refs_info rfl (rqR_one _ _ rfl)) ?_)
    | (refine plS rfl (exec_store_bxK _ (.tmp 13) (.tmp 71) rfl (w3.heap.size + 1) (sR X) _ rfl rfl (HX0.out.rowOther (by omega) _) sp_info rfl (sR_one _)) ?_; refine Hid.out ?_))
  refine Lib.hid ?_
  have HQ5 := Lib.hid (show DoQ w u (.slice ab u.l.length cb) x ((((w3.alloc (.cells #[.int .i64 0, .int .i64 0, .int .i64 0, .int .i64 0, .int .i64 0, .int .i64 0, .slice none 0 0] 31)).alloc (.cells #[.int .i64 0, .int .i64 0] 27)).setRow w3.heap.size (rqR T (.slice a3 T.l.length c3)).toArray).setRow (w3.heap.size + 1) (sR X).toArray) from HQ3.out.up (below_row (below_row HBZ.out (Nat.le_refl _) _) (Nat.le_succ _) _))
  have HB5 := Lib.hid (below_row (below_row HBZ.out (Nat.le_refl _) (rqR T (.slice a3 T.l.length c3)).toArray) (Nat.le_succ _) (sR X).toArray)
  have HY5 := Lib.hid ((HY.out.row (rqR T (.slice a3 T.l.length c3))).rowOther (k := w3.heap.size + 1) (by omega) (sR X).toArray)
  have HX5 := Lib.hid ((HX0.out.rowOther (k := w3.heap.size) (by omega) (rqR T (.slice a3 T.l.length c3)).toArray).row (sR X))
  have HS5 := Lib.hid (show ((((w3.alloc (.cells #[.int .i64 0, .int .i64 0, .int .i64 0, .int .i64 0, .int .i64 0, .int .i64 0, .slice none 0 0] 31)).alloc (.cells #[.int .i64 0, .int .i64 0] 27)).setRow w3.heap.size (rqR T (.slice a3 T.l.length c3)).toArray).setRow (w3.heap.size + 1) (sR X).toArray).heap.size = w3.heap.size + 1 + 1 by rw [← HS2.out]; simp)
  obtain ⟨g12, hg12⟩ : ∃ g, g = w3.heap.size := ⟨_, rfl⟩
  have HG12 := Lib.hid hg12
  clear HY HX0 HBZ HS2 HQ3 HQ
  generalize (((w3.alloc (.cells #[.int .i64 0, .int .i64 0, .int .i64 0, .int .i64 0, .int .i64 0, .int .i64 0, .slice none 0 0] 31)).alloc (.cells #[.int .i64 0, .int .i64 0] 27)).setRow w3.heap.size (rqR T (.slice a3 T.l.length c3)).toArray).setRow (w3.heap.size + 1) (sR X).toArray = w5 at *
  have r1 : w5.cell? ⟨w.heap.size + 1, 1, none⟩ = some (.int .i64 x.o) := (HQ5.out.p.cell 1).trans rfl
  have r2 : w5.cell? ⟨w.heap.size + 1, 2, none⟩ = some (.int .i64 x.k) := (HQ5.out.p.cell 2).trans rfl
  have r3 : w5.cell? ⟨w.heap.size + 1, 3, none⟩ = some (.int .i64 x.n) := (HQ5.out.p.cell 3).trans rfl
  have HPC := Lib.hid (draw_any x.o x.k x.n w5 (HM.out.up HQ5.out.below) HL9.out)
  obtain ⟨DT, hDT⟩ : ∃ DT, t.draw x.o x.k x.n = DT := ⟨_, rfl⟩
  have HDT := Lib.hid hDT
  rw [hDT] at HPC
  obtain ⟨Y, hY⟩ : ∃ Y, DT.2.1 = Y := ⟨_, rfl⟩
  obtain ⟨D, hD⟩ : ∃ D, DT.2.2 = D := ⟨_, rfl⟩
  have HYD := Lib.hid hY
  have HDD := Lib.hid hD
  rw [hY, hD] at HPC
  rw [show dRes Y D = .tuple #[.agg (sR Y).toArray, .int .i64 D] from rfl] at HPC
  rw [← hg12] at HY5 HX5 ⊢
  clear hDT hY hD hg12
  go_wp2_with (go_at_call 24; refine HPC.out.mono ?_; rintro e w6 ⟨rfl, s6⟩; refine Hid.out ?_)
  refine Lib.hid ?_
  have hlow : ∀ g, w.heap.size ≤ g → ¬ OwnK pt vb vr g := fun g hg hk => by have := HM.out.low hk; omega
  have hgw : w.heap.size ≤ g12 := by have := HG12.out; have := HB3.out.size; have := HG2.out; omega
  have hgn : g12 ≠ w.heap.size + 1 + 1 := by have := HG12.out; have := HB3.out.size; have := HG2.out; omega
  have hgn2 : g12 + 1 ≠ w.heap.size + 1 + 1 := by have := HG12.out; have := HB3.out.size; have := HG2.out; omega
  have hR6 := HQ5.out.r.kp s6.kp (hlow _ (by omega))
  have hY6 := HY5.out.kp s6.kp (hlow _ hgw)
  have hX6 := HX5.out.kp s6.kp (hlow _ (by omega))
  have hba : Below w6.heap.size w6 (w6.alloc (.cells (sR Y).toArray 27)) := (Below.refl _ _).alloc (Nat.le_refl _) _
  have HR7 := Lib.hid (hR6.up hba)
  have HY7 := Lib.hid (hY6.up hba)
  have HX7 := Lib.hid (hX6.up hba)
  have HW7 := Lib.hid (Bx.new w6 27 (sR Y))
  have HT7 := Lib.hid (s6.then hba)
  obtain ⟨g15, hg15⟩ : ∃ g, g = w6.heap.size := ⟨_, rfl⟩
  have hgn3 : g15 ≠ w.heap.size + 1 + 1 := by have := hR6.lt; omega
  clear s6 hlow hR6 hY6 hX6 hba r1 r2 r3
  go_wp2_with (refine plS rfl (exec_store_fresh _ (.tmp 15) (.tmp 82) rfl (sR Y) _ w6.heap.size rfl rfl rfl sp_info rfl (sR_one _)) ?_; refine Hid.out ?_)
  refine Lib.hid ?_
  generalize w6.alloc (.cells (sR Y).toArray 27) = w7 at *
  rw [← hg15] at HW7 ⊢
  clear hg15
  go_wp2
  have HR8 := Lib.hid (HR7.out.up (Below.refl _ _).drew)
  have HY8 := Lib.hid (HY7.out.up (Below.refl _ _).drew)
  have HX8 := Lib.hid (HX7.out.up (Below.refl _ _).drew)
  have HW8 := Lib.hid (HW7.out.up (Below.refl _ _).drew)
  have HT8 := Lib.hid (HT7.out.then (Below.refl _ _).drew)
  refine wp_region_noPanic ?_
  refine wp_region_held_drew (S := HeldDr g12 g15 T (.slice a3 T.l.length c3) X Y) (by kernel_rfl) ⟨rangeAll HY8.out, rangeAll HX8.out, rangeAll HW8.out⟩ (fun hHeld => ?_)
  generalize w7.drew = wd at *
  clear HR7 HY7 HX7 HW7 HT7
  have HD6 := Lib.hid (DoTo.of HM.out HA.out HQ5.out.below (show w.heap.size ≤ w.heap.size + 1 + 1 by omega) HG2.out (vl := (.slice ab u.l.length cb)) (v' := (.slice a3 T.l.length c3)) (w3 := w3) (u' := T) HN3.out HB3.out.size (by rw [HS5.out]; omega) (IsC.below HI3.out HB5.out) HT8.out (rqR T (.slice a3 T.l.length c3)).toArray)
  refine held_take (v := rqV T (.slice a3 T.l.length c3)) 0 rfl (by kernel_rfl) (by kernel_rfl) (by kernel_rfl) (fun _ _ _ h => h) (by rfl) (fun W hSw => exec_load_any _ (.tmp 12) rfl g12 0 (rqR T (.slice a3 T.l.length c3)) _ rfl hSw.1 Try.underlying31 rfl refs_info) (by assumption) ?_
  simp only [List.setIfInBounds_toArray, List.set_cons_zero, List.set_cons_succ]
  refine held_take (v := sV X) 1 rfl (by kernel_rfl) (by kernel_rfl) (by kernel_rfl) (fun _ _ _ h => h) (by rfl) (fun W hSw => exec_load_any _ (.tmp 13) rfl (g12 + 1) 0 (sR X) _ rfl hSw.2.1 Try.underlying27 rfl sp_info) (by assumption) ?_
  simp only [List.setIfInBounds_toArray, List.set_cons_zero, List.set_cons_succ]
  refine held_take (v := sV Y) 2 rfl (by kernel_rfl) (by kernel_rfl) (by kernel_rfl) (fun _ _ _ h => h) (by rfl) (fun W hSw => exec_load_any _ (.tmp 15) rfl g15 0 (sR Y) _ rfl hSw.2.2 Try.underlying27 rfl sp_info) (by assumption) ?_
  simp only [List.setIfInBounds_toArray, List.set_cons_zero, List.set_cons_succ]
  obtain ⟨eq, heq⟩ : ∃ eq, eqSp X Y = eq := ⟨_, rfl⟩
  have HEQ := Lib.hid heq
  refine held_take (v := .bool eq) 3 rfl (by kernel_rfl) (by kernel_rfl) (by kernel_rfl) (fun _ _ _ h => h) (by rfl) (fun W hSw => heq ▸ exec_eql_spn _ _ _ rfl X Y rfl rfl) (by assumption) ?_
  simp only [List.setIfInBounds_toArray, List.set_cons_zero, List.set_cons_succ]
  have hY9 := HY8.out.rowOther hgn (rqR T (.slice a3 T.l.length c3)).toArray
  have hX9 := HX8.out.rowOther hgn2 (rqR T (.slice a3 T.l.length c3)).toArray
  have hW9 := HW8.out.rowOther hgn3 (rqR T (.slice a3 T.l.length c3)).toArray
  have hxz := HR8.out.row (rqR T (.slice a3 T.l.length c3))
  cases eq with
  | true =>
    refine held_take (v := ?v811) 4 rfl (by kernel_rfl) (by kernel_rfl) (by kernel_rfl) (fun _ _ _ h => h) (by rfl) ?y811 (by assumption) ?_
    case y811 => (intro w hSw; unfold HeldDr at hSw; go_simp; (try with_reducible rfl); (try omega))
    simp only [List.setIfInBounds_toArray, List.set_cons_zero, List.set_cons_succ]
    refine held_take (v := ?v814) 5 rfl (by kernel_rfl) (by kernel_rfl) (by kernel_rfl) (fun _ _ _ h => h) (by rfl) ?y814 (by assumption) ?_
    case y814 => (intro w hSw; unfold HeldDr at hSw; go_simp; (try with_reducible rfl); (try omega))
    simp only [List.setIfInBounds_toArray, List.set_cons_zero, List.set_cons_succ]
    refine held_take (v := ?v817) 6 rfl (by kernel_rfl) (by kernel_rfl) (by kernel_rfl) (fun _ _ _ h => h) (by rfl) ?y817 (by assumption) ?_
    case y817 => (intro w hSw; unfold HeldDr at hSw; go_simp; (try with_reducible rfl); (try omega))
    simp only [List.setIfInBounds_toArray, List.set_cons_zero, List.set_cons_succ]
    refine held_take (v := .bool (C == D)) 7 rfl (by kernel_rfl) (by kernel_rfl) (by kernel_rfl) (fun _ _ _ h => h) (by rfl) (fun W hSw => exec_eql_err _ _ _ rfl C D rfl rfl) (by assumption) ?_
    simp only [List.setIfInBounds_toArray, List.set_cons_zero, List.set_cons_succ]
    refine held_take (v := ?v822) 8 rfl (by kernel_rfl) (by kernel_rfl) (by kernel_rfl) (fun _ _ _ h => h) (by rfl) ?y822 (by assumption) ?_
    case y822 => (intro w hSw; unfold HeldDr at hSw; go_simp; (try with_reducible rfl); (try omega))
    simp only [List.setIfInBounds_toArray, List.set_cons_zero, List.set_cons_succ]
    refine held_none 9 rfl (by kernel_rfl) (by rfl) (fun K hK => ?_)
    refine wp_of_skip (exec_store_bxK _ (.tmp 6) (.tmp 84) rfl (w.heap.size + 1 + 1) (rqR T (.slice a3 T.l.length c3)) _ rfl rfl HR8.out refs_info rfl (rqR_one _ _ rfl)) ?_
    refine hK.out _ _ ⟨rangeAll hY9, rangeAll hX9, rangeAll hW9⟩ (fun _ => ?_)
    clear hK K hY9 hX9 hW9
    refine held_take (v := ?v829) 10 rfl (by kernel_rfl) (by kernel_rfl) (by kernel_rfl) (fun _ _ _ h => h) (by rfl) ?y829 (by assumption) ?_
    case y829 => (intro w hSw; unfold HeldDr at hSw; go_simp; (try with_reducible rfl); (try omega))
    simp only [List.setIfInBounds_toArray, List.set_cons_zero, List.set_cons_succ]
    refine wpAnyH_done (by kernel_rfl) ?_ _
    refine NoPanic.normal ?_
    generalize wd.setRow (w.heap.size + 1 + 1) (rqR T (.slice a3 T.l.length c3)).toArray = WZ at *
    have u0 : WZ.cell? ⟨w.heap.size + 1 + 1, 0, none⟩ = some (.int .i64 0) := by rw [hxz.cell]; rfl
    have u1 : WZ.cell? ⟨w.heap.size + 1 + 1, 1, none⟩ = some (.int .i64 0) := by rw [hxz.cell]; rfl
    have u2 : WZ.cell? ⟨w.heap.size + 1 + 1, 2, none⟩ = some (.int .i64 T.a1.f) := by rw [hxz.cell]; rfl
    have u3 : WZ.cell? ⟨w.heap.size + 1 + 1, 3, none⟩ = some (.int .i64 T.a1.l) := by rw [hxz.cell]; rfl
    have u4 : WZ.cell? ⟨w.heap.size + 1 + 1, 4, none⟩ = some (.int .i64 T.a2.f) := by rw [hxz.cell]; rfl
    have u5 : WZ.cell? ⟨w.heap.size + 1 + 1, 5, none⟩ = some (.int .i64 T.a2.l) := by rw [hxz.cell]; rfl
    have u6 : WZ.cell? ⟨w.heap.size + 1 + 1, 6, none⟩ = some ((.slice a3 T.l.length c3)) := by rw [hxz.cell]; rfl
    go_wp2
    exact bodyPost_ret (v := .tuple #[rqV T (.slice a3 T.l.length c3), .bool (C == D)]) (by simp [results, Try.results12, go_sem, rqV, rqR, u0, u1, u2, u3, u4, u5, u6]) rfl ⟨.slice a3 T.l.length c3, C == D, by rw [HT.out], fun e => by
      subst e
      have h1 := HDT.out
      rw [HR.out] at h1
      have h2 := HC.out
      have h3 := HDD.out
      rw [h1] at h2
      rw [← h2, ← h3]
      exact beq_self_eq_true _, by rw [HT.out, HDT.out]; exact HD6.out⟩
  | false =>
    refine held_take (v := ?v853) 4 rfl (by kernel_rfl) (by kernel_rfl) (by kernel_rfl) (fun _ _ _ h => h) (by rfl) ?y853 (by assumption) ?_
    case y853 => (intro w hSw; unfold HeldDr at hSw; go_simp; (try with_reducible rfl); (try omega))
    simp only [List.setIfInBounds_toArray, List.set_cons_zero, List.set_cons_succ]
    refine held_skip 5 rfl (by kernel_rfl) (by kernel_rfl) (by kernel_rfl) (fun _ _ _ h => h) (by rfl) (by assumption) ?_
    simp only [List.setIfInBounds_toArray, List.set_cons_zero, List.set_cons_succ]
    refine held_skip 6 rfl (by kernel_rfl) (by kernel_rfl) (by kernel_rfl) (fun _ _ _ h => h) (by rfl) (by assumption) ?_
    simp only [List.setIfInBounds_toArray, List.set_cons_zero, List.set_cons_succ]
    refine held_skip 7 rfl (by kernel_rfl) (by kernel_rfl) (by kernel_rfl) (fun _ _ _ h => h) (by rfl) (by assumption) ?_
    simp only [List.setIfInBounds_toArray, List.set_cons_zero, List.set_cons_succ]
    refine held_take (v := ?v862) 8 rfl (by kernel_rfl) (by kernel_rfl) (by kernel_rfl) (fun _ _ _ h => h) (by rfl) ?y862 (by assumption) ?_
    case y862 => (intro w hSw; unfold HeldDr at hSw; go_simp; (try with_reducible rfl); (try omega))
    simp only [List.setIfInBounds_toArray, List.set_cons_zero, List.set_cons_succ]
    refine held_none 9 rfl (by kernel_rfl) (by rfl) (fun K hK => ?_)
    refine wp_of_skip (exec_store_bxK _ (.tmp 6) (.tmp 84) rfl (w.heap.size + 1 + 1) (rqR T (.slice a3 T.l.length c3)) _ rfl rfl HR8.out refs_info rfl (rqR_one _ _ rfl)) ?_
    refine hK.out _ _ ⟨rangeAll hY9, rangeAll hX9, rangeAll hW9⟩ (fun _ => ?_)
    clear hK K hY9 hX9 hW9
    refine held_take (v := ?v869) 10 rfl (by kernel_rfl) (by kernel_rfl) (by kernel_rfl) (fun _ _ _ h => h) (by rfl) ?y869 (by assumption) ?_
    case y869 => (intro w hSw; unfold HeldDr at hSw; go_simp; (try with_reducible rfl); (try omega))
    simp only [List.setIfInBounds_toArray, List.set_cons_zero, List.set_cons_succ]
    refine wpAnyH_done (by kernel_rfl) ?_ _
    refine NoPanic.normal ?_
    generalize wd.setRow (w.heap.size + 1 + 1) (rqR T (.slice a3 T.l.length c3)).toArray = WZ at *
    have u0 : WZ.cell? ⟨w.heap.size + 1 + 1, 0, none⟩ = some (.int .i64 0) := by rw [hxz.cell]; rfl
    have u1 : WZ.cell? ⟨w.heap.size + 1 + 1, 1, none⟩ = some (.int .i64 0) := by rw [hxz.cell]; rfl
    have u2 : WZ.cell? ⟨w.heap.size + 1 + 1, 2, none⟩ = some (.int .i64 T.a1.f) := by rw [hxz.cell]; rfl
    have u3 : WZ.cell? ⟨w.heap.size + 1 + 1, 3, none⟩ = some (.int .i64 T.a1.l) := by rw [hxz.cell]; rfl
    have u4 : WZ.cell? ⟨w.heap.size + 1 + 1, 4, none⟩ = some (.int .i64 T.a2.f) := by rw [hxz.cell]; rfl
    have u5 : WZ.cell? ⟨w.heap.size + 1 + 1, 5, none⟩ = some (.int .i64 T.a2.l) := by rw [hxz.cell]; rfl
    have u6 : WZ.cell? ⟨w.heap.size + 1 + 1, 6, none⟩ = some ((.slice a3 T.l.length c3)) := by rw [hxz.cell]; rfl
    go_wp2
    exact bodyPost_ret (v := .tuple #[rqV T (.slice a3 T.l.length c3), .bool (false)]) (by simp [results, Try.results12, go_sem, rqV, rqR, u0, u1, u2, u3, u4, u5, u6]) rfl ⟨.slice a3 T.l.length c3, false, by rw [HT.out], fun e => by
      subst e
      have h1 := HDT.out
      rw [HR.out] at h1
      have h2 := HX.out
      have h3 := HYD.out
      rw [h1] at h2
      have h4 := HEQ.out
      rw [← h2, ← h3, eqSp_self] at h4
      exact Bool.noConfusion h4, by rw [HT.out, HDT.out]; exact HD6.out⟩
theorem do_any {base pt : Nat} {vb vr vl : Value} {t u : SpS} (x : StpS) (w : World) (h : SpM w base pt vb vr t) (hl9 : t.l.length ≤ 900) (hwu : WF u) (hln1 : u.l.length ≤ 1000) (hkl : IsK w vl u.l)
    (ha : ∀ k, vl.ownBlock = some k → ¬ OwnK pt vb vr k ∧ k < w.heap.size) : Calls Try.prog 12 #[.pointer (some ⟨pt, 0, none⟩), rqV u vl, stV x] w (DoZ w base pt vb vr vl t u x) := by
  by_cases h0 : x.q = 0
  · exact do_carve x w h hl9 hwu hln1 hkl ha h0
  · by_cases h1 : x.q = 1
    · exact do_close x w h hl9 hwu hln1 hkl ha h1
    · by_cases h2 : x.q = 2
      · exact do_draw x w h hl9 hwu hln1 hkl ha h2
      · by_cases h3 : x.q = 3
        · exact do_take x w h hl9 hwu hln1 hkl ha h3
        · by_cases h4 : x.q = 4
          · exact do_free x w h hl9 hwu hln1 hkl ha h4
          · exact do_none x w h hl9 hwu hln1 hkl ha h0 h1 h2 h3 h4
end Go.Proofs.Ytgelbeglffjdaaa

/- Stage 12's laws: the live example. Stage 12's laws: a space, and the document's, are the same. -/
import Derived.Test.YtgelbeglffjdaaaZ12
namespace Go.Proofs.Ytgelbeglffjdaaa
open Go Go.RowKit Go.Shelf
attribute [local go_sem] Oper.semAt_some

def exT1 : SpS := ⟨⟨16000, 23999⟩, ⟨0, 0⟩, []⟩
def exT2 : SpS := ⟨⟨16000, 23999⟩, ⟨0, 0⟩, [⟨⟨16, 18⟩, 7, 0⟩]⟩
def exT3 : SpS := ⟨⟨16000, 23999⟩, ⟨0, 0⟩, [⟨⟨16, 18⟩, 7, 0⟩, ⟨⟨16001, 16001⟩, 8, 1⟩]⟩
theorem ex_1 : newT.carve 1 ⟨16000, 23999⟩ = (exT1, 0) := by rfl
theorem ex_2 : exT1.index 5 = (16005, true) := by rfl
theorem ex_3 : exT1.draw 7 0 3 = (exT2, ⟨16, 18⟩, 0) := by rfl
theorem ex_4 : ownB 17 exT2.l = (7, 0) := by rfl
theorem ex_5 : exT2.take 8 ⟨18, 19⟩ = (exT2, 42) := by rfl
theorem ex_6 : exT2.take 8 ⟨16001, 16001⟩ = (exT3, 0) := by rfl
theorem ex_7 : exT3.close 1 = (exT3, 33) := by rfl
theorem ex_8 : (exT3.free 7 ⟨16, 18⟩).2 = 0 := by rfl
set_option maxRecDepth 100000 in
set_option maxHeartbeats 8000000 in
theorem awake12 (w : World) : Calls Try.prog 10 #[] w fun e w' => e = .returned (.bool true) ∧ Below w.heap.size w w' := by
  have HNW := Lib.hid (new_any w)
  go_enter Try.func10, Try.ntmps10
  go_wp2_with (go_at_call 11; refine HNW.out.mono ?_; rintro e w1 ⟨rfl, m1, b1⟩; refine Hid.out ?_)
  refine Lib.hid ?_
  have HZ1 := Lib.hid (z12_new b1 m1 (Nat.le_refl _))
  clear m1 b1
  obtain ⟨vb1, vr1, m1, k1⟩ := HZ1.out.to
  have hc1 := carve_any 1 ⟨16000, 23999⟩ w1 m1
  rw [ex_1] at hc1
  have HC := Lib.hid hc1
  have HK := Lib.hid k1
  clear hc1 k1
  go_wp2_with (go_at_call 39; refine HC.out.mono ?_; rintro e w2 ⟨rfl, s2⟩; refine Hid.out ?_)
  refine Lib.hid ?_
  have HZ2 := Lib.hid (HK.out _ _ s2)
  clear s2 HC HK m1 HZ1
  obtain ⟨vb2, vr2, m2, _⟩ := HZ2.out.to
  have hc2 := index_any 5 (by omega) w2 m2
  rw [ex_2] at hc2
  have HC := Lib.hid hc2
  clear hc2
  go_wp2_with (go_at_call 15; refine HC.out.mono ?_; rintro e w3 ⟨rfl, b3⟩; refine Hid.out ?_)
  refine Lib.hid ?_
  have HZ3 := Lib.hid (HZ2.out.up b3)
  clear b3 HC m2 HZ2
  obtain ⟨vb3, vr3, m3, k3⟩ := HZ3.out.to
  have hc3 := draw_any 7 0 3 w3 m3 (by decide)
  rw [ex_3] at hc3
  rw [show dRes (exT2, (⟨16, 18⟩ : Spn), (0 : Int)).2.1 (exT2, (⟨16, 18⟩ : Spn), (0 : Int)).2.2 = .tuple #[.agg (sR ⟨16, 18⟩).toArray, .int .i64 0] from rfl] at hc3
  have HC := Lib.hid hc3
  have HK := Lib.hid k3
  clear hc3 k3
  go_wp2_with (go_at_call 24; refine HC.out.mono ?_; rintro e w4 ⟨rfl, s4⟩; refine Hid.out ?_)
  refine Lib.hid ?_
  have HZ4 := Lib.hid (HK.out _ _ s4)
  clear s4 HC HK m3 HZ3
  have HZ5 := Lib.hid (HZ4.out.al 27 (sR ⟨16, 18⟩))
  obtain ⟨g5, hg5⟩ : ∃ g, g = w4.heap.size := ⟨_, rfl⟩
  go_wp2_with (refine plS rfl (exec_store_fresh _ (.tmp 5) (.tmp 26) rfl (sR ⟨16, 18⟩) _ w4.heap.size rfl rfl rfl sp_info rfl (sR_one _)) ?_; refine Hid.out ?_)
  refine Lib.hid ?_
  clear HZ4
  generalize w4.alloc (.cells (sR ⟨16, 18⟩).toArray 27) = w5 at *
  rw [← hg5] at HZ5 ⊢
  clear hg5
  obtain ⟨vb5, vr5, m5, _⟩ := HZ5.out.to
  have hc5 := owner_any 17 w5 m5
  rw [ex_4] at hc5
  have HC := Lib.hid hc5
  clear hc5
  go_wp2_with (go_at_call 13; refine HC.out.mono ?_; rintro e w6 ⟨rfl, b6⟩; refine Hid.out ?_)
  refine Lib.hid ?_
  have HZ6 := Lib.hid (HZ5.out.up b6)
  clear b6 HC m5 HZ5
  obtain ⟨vb6, vr6, m6, k6⟩ := HZ6.out.to
  have hc6 := take_any 8 ⟨18, 19⟩ w6 m6 (by decide)
  rw [ex_5] at hc6
  have HC := Lib.hid hc6
  have HK := Lib.hid k6
  clear hc6 k6
  go_wp2_with (go_at_call 27; refine HC.out.mono ?_; rintro e w7 ⟨rfl, s7⟩; refine Hid.out ?_)
  refine Lib.hid ?_
  have HZ7 := Lib.hid (HK.out _ _ s7)
  clear s7 HC HK m6 HZ6
  obtain ⟨vb7, vr7, m7, k7⟩ := HZ7.out.to
  have hc7 := take_any 8 ⟨16001, 16001⟩ w7 m7 (by decide)
  rw [ex_6] at hc7
  have HC := Lib.hid hc7
  have HK := Lib.hid k7
  clear hc7 k7
  go_wp2_with (go_at_call 27; refine HC.out.mono ?_; rintro e w8 ⟨rfl, s8⟩; refine Hid.out ?_)
  refine Lib.hid ?_
  have HZ8 := Lib.hid (HK.out _ _ s8)
  clear s8 HC HK m7 HZ7
  obtain ⟨vb8, vr8, m8, k8⟩ := HZ8.out.to
  have hc8 := close_any 1 w8 m8
  rw [ex_7] at hc8
  have HC := Lib.hid hc8
  have HK := Lib.hid k8
  clear hc8 k8
  go_wp2_with (go_at_call 40; refine HC.out.mono ?_; rintro e w9 ⟨rfl, s9⟩; refine Hid.out ?_)
  refine Lib.hid ?_
  have HZ9 := Lib.hid (HK.out _ _ s9)
  clear s9 HC HK m8 HZ8
  have hb9 := HZ9.out.box (.head _)
  have z0 : w9.cell? ⟨g5, 0, none⟩ = some (.int .i64 16) := by rw [hb9.cell]; rfl
  have z1 : w9.cell? ⟨g5, 1, none⟩ = some (.int .i64 18) := by rw [hb9.cell]; rfl
  obtain ⟨vb9, vr9, m9, _⟩ := HZ9.out.to
  have HC := Lib.hid (blocks_any w9 m9)
  clear hb9 m9
  go_wp2_with (go_at_call 18; refine HC.out.mono ?_; rintro e w10 ⟨v10, rfl, i10, b10⟩; refine Hid.out ?_)
  refine Lib.hid ?_
  have HZ10 := Lib.hid (HZ9.out.up b10)
  obtain ⟨a10, c10, hv10, hc10⟩ := IsK.form i10
  subst hv10
  rw [show exT3.l.length = 2 from rfl]
  clear i10 b10 z0 z1 HZ9 HC hc10
  have hb10 := HZ10.out.box (.head _)
  have z0 : w10.cell? ⟨g5, 0, none⟩ = some (.int .i64 16) := by rw [hb10.cell]; rfl
  have z1 : w10.cell? ⟨g5, 1, none⟩ = some (.int .i64 18) := by rw [hb10.cell]; rfl
  obtain ⟨vb10, vr10, m10, k10⟩ := HZ10.out.to
  have hc10 := free_any 7 ⟨16, 18⟩ w10 m10 (by decide)
  rw [ex_8] at hc10
  have HC := Lib.hid hc10
  have HK := Lib.hid k10
  clear hb10 m10 k10 hc10
  go_wp2_with (go_at_call 25; refine HC.out.mono ?_; rintro e w11 ⟨rfl, s11⟩; refine Hid.out ?_)
  refine Lib.hid ?_
  have HZ11 := Lib.hid (HK.out _ _ s11)
  clear s11 z0 z1
  go_wp2
  go_ret
  exact ⟨rfl, HZ11.out.below⟩
end Go.Proofs.Ytgelbeglffjdaaa
namespace Go.Proofs.Ytgelbeglffjdaaa
open Go Go.RowKit Go.Shelf
attribute [local go_sem] Oper.semAt_some

theorem exec_neq_bb {ρ : Operand → Value} {o : Oper} {W : World} (x y : Operand) (ty : TypeId) (ho : o.op = .binOp .neq 4 x y ty) (b : Bool) (hx : ρ x = .bool b) (hy : ρ y = .bool b) :
    (execOp ρ o).run Try.prog W = .ok (.value (.bool false)) W := by
  unfold execOp
  simp only [ho, hx, hy]
  cases b <;> go_simp
def HeldSm (g8 g10 g : Nat) (A : Spn) (t : SpS) (v : Value) (W : World) : Prop := W.rangeAt g8 0 (sR A) ∧ W.rangeAt g10 0 (sR A) ∧ W.rangeAt g 0 (rqR t v)
set_option maxRecDepth 100000 in
set_option maxHeartbeats 4000000 in
theorem same_len {base pt : Nat} {vb vr vl : Value} {t u : SpS} (w : World) (h : SpM w base pt vb vr t) (hkl : IsK w vl u.l) (hne : t.l.length ≠ u.l.length) :
    Calls Try.prog 17 #[.pointer (some ⟨pt, 0, none⟩), rqV u vl] w fun e w' => e = .returned (.bool false) ∧ Below w.heap.size w w' := by
  obtain ⟨ab, cb, hvb, hcb⟩ := hkl.form
  subst hvb
  have hb0 : Below w.heap.size w (w.alloc (.cells (rqR u (.slice ab u.l.length cb)).toArray 31)) := (Below.refl _ _).alloc (Nat.le_refl _) _
  have HX0 := Lib.hid (Bx.new w 31 (rqR u (.slice ab u.l.length cb)))
  have HBL := Lib.hid (blocks_any _ (h.up hb0))
  have HB0 := Lib.hid hb0
  rw [show rqV u (.slice ab u.l.length cb) = .agg (rqR u (.slice ab u.l.length cb)).toArray from rfl]
  have hni : ¬ ((t.l.length : Int) = (u.l.length : Int)) := by omega
  clear h hkl hne hb0
  go_enter Try.func17, Try.ntmps17
  go_wp2_with (go_at_call 18; refine HBL.out.mono ?_; rintro e w1 ⟨v1, rfl, i1, b1⟩; refine Hid.out ?_)
  refine Lib.hid ?_
  obtain ⟨a1, c1, hv1, hc1⟩ := IsK.form i1
  subst hv1
  have hx1 := HX0.out.up b1
  have c6 : w1.cell? ⟨w.heap.size, 6, none⟩ = some (.slice ab u.l.length cb) := by rw [hx1.cell]; rfl
  have HB1 := Lib.hid (below_up HB0.out b1 HB0.out.size)
  clear i1 b1 hx1 hc1 HX0 HBL
  go_wp2
  go_ret
  exact ⟨rfl, HB1.out⟩
set_option maxRecDepth 100000 in
set_option maxHeartbeats 8000000 in
theorem same_eq {base pt : Nat} {vb vr vl : Value} {t : SpS} (w : World) (h : SpM w base pt vb vr t) (hkl : IsK w vl t.l) :
    Calls Try.prog 17 #[.pointer (some ⟨pt, 0, none⟩), rqV t vl] w fun e w' => e = .returned (.bool true) ∧ Below w.heap.size w w' := by
  have mixed : Try.prog.follows .mixedOrders = true := by kernel_rfl
  have HK := Lib.hid hkl
  have HM := Lib.hid h
  obtain ⟨ab, cb, hvb, hcb⟩ := hkl.form
  subst hvb
  have hb0 : Below w.heap.size w (w.alloc (.cells (rqR t (.slice ab t.l.length cb)).toArray 31)) := (Below.refl _ _).alloc (Nat.le_refl _) _
  have HX0 := Lib.hid (Bx.new w 31 (rqR t (.slice ab t.l.length cb)))
  have HBL := Lib.hid (blocks_any _ (h.up hb0))
  have HB0 := Lib.hid hb0
  rw [show rqV t (.slice ab t.l.length cb) = .agg (rqR t (.slice ab t.l.length cb)).toArray from rfl]
  have HLL := Lib.hid h.len
  clear h hkl hb0
  go_enter Try.func17, Try.ntmps17
  go_wp2_with (go_at_call 18; refine HBL.out.mono ?_; rintro e w1 ⟨v1, rfl, i1, b1⟩; refine Hid.out ?_)
  refine Lib.hid ?_
  obtain ⟨a1, c1, hv1, hc1⟩ := IsK.form i1
  subst hv1
  have HX1 := Lib.hid (HX0.out.up b1)
  have c6 : w1.cell? ⟨w.heap.size, 6, none⟩ = some (.slice ab t.l.length cb) := by rw [HX1.out.cell]; rfl
  have HB1 := Lib.hid (below_up HB0.out b1 HB0.out.size)
  have HI1 := Lib.hid i1
  have hln : (t.l.length : Int) ≤ 1000 := by have := HLL.out; omega
  clear i1 b1 hc1 HX0 HBL HB0
  go_wp2
  clear c6
  go_loopw [6] (fun i wr => ∃ j : Nat, j ≤ t.l.length ∧ i = .int .i64 (j : Int) ∧ Hid (Below w1.heap.size w1 wr)) (fun i _ => t.l.length - (intOf i).toNat)
  case atStart => exact ⟨0, Nat.zero_le _, rfl, Lib.hid (Below.refl _ _)⟩
  case round =>
    obtain ⟨j, hj, rfl, HBW⟩ := hrel
    by_cases hlt : j < t.l.length
    · have hlti : (j : Int) < (t.l.length : Int) := by omega
      have h0k : (0 : Int) ≤ (j : Int) := by omega
      obtain ⟨x, hx⟩ : ∃ x, t.l[j]? = some x := ⟨t.l[j], List.getElem?_eq_getElem hlt⟩
      have c6 : wr.cell? ⟨w.heap.size, 6, none⟩ = some (.slice ab t.l.length cb) := by rw [(HX1.out.up HBW.out).cell]; rfl
      obtain ⟨bb, bo, rfl, hbb⟩ : ∃ bb bo, ab = some ⟨bb, bo, none⟩ ∧ bb < w.heap.size := by
        obtain ⟨_, _, _, h4⟩ := HK.out.shape
        obtain ⟨b, o, e1, e2, _⟩ := h4 (by omega)
        exact ⟨b, o, e1, e2⟩
      obtain ⟨ba, bp, rfl, hba⟩ : ∃ bb bo, a1 = some ⟨bb, bo, none⟩ ∧ bb < w1.heap.size := by
        obtain ⟨_, _, _, h4⟩ := IsC.shape HI1.out
        obtain ⟨b, o, e1, e2, _⟩ := h4 (by omega)
        exact ⟨b, o, e1, e2⟩
      have hrg := IsK.range (HK.out.below (below_up HB1.out HBW.out HB1.out.size)) j x hx
      have y0 : wr.cell? ⟨bb, bo + j * 4, none⟩ = some (.int .i64 x.s.f) := hrg 0 _ rfl
      have y1 : wr.cell? ⟨bb, bo + j * 4 + 1, none⟩ = some (.int .i64 x.s.l) := hrg 1 _ rfl
      have y2 : wr.cell? ⟨bb, bo + j * 4 + 2, none⟩ = some (.int .i64 x.o) := hrg 2 _ rfl
      have y3 : wr.cell? ⟨bb, bo + j * 4 + 3, none⟩ = some (.int .i64 x.a) := hrg 3 _ rfl
      have hrh := IsK.range (IsC.below HI1.out HBW.out) j x hx
      have z0 : wr.cell? ⟨ba, bp + j * 4, none⟩ = some (.int .i64 x.s.f) := hrh 0 _ rfl
      have z1 : wr.cell? ⟨ba, bp + j * 4 + 1, none⟩ = some (.int .i64 x.s.l) := hrh 1 _ rfl
      have z2 : wr.cell? ⟨ba, bp + j * 4 + 2, none⟩ = some (.int .i64 x.o) := hrh 2 _ rfl
      have z3 : wr.cell? ⟨ba, bp + j * 4 + 3, none⟩ = some (.int .i64 x.a) := hrh 3 _ rfl
      clear hx hrg hrh
      go_wp2
      go_quiet (fail)
      go_wp2
      go_roundw
      case rel => exact ⟨j + 1, by omega, rfl, Lib.hid (HBW.out.trans ⟨rfl, rfl, rfl, Nat.le_refl _, fun _ _ => rfl⟩)⟩
      case measure => simp only [intOf]; omega
    · have hlti : ¬ ((j : Int) < (t.l.length : Int)) := by omega
      clear hlt hj
      go_wp2
      go_loopw [7] (fun i w2 => ∃ j : Nat, j ≤ 5 ∧ i = .int .i64 ((j : Int) - 1) ∧ Hid (Below w1.heap.size w1 w2)) (fun i _ => 5 - (intOf i + 1).toNat)
      case atStart => exact ⟨0, Nat.zero_le _, rfl, HBW⟩
      case round =>
        obtain ⟨j2, hj2, rfl, HBV⟩ := hrel
        by_cases hl2 : j2 < 5
        · have hlt2 : (j2 : Int) - 1 < 4 := by omega
          obtain ⟨kk, hkk⟩ : ∃ kk, (j2 : Int) - 1 = kk := ⟨_, rfl⟩
          have HKJ := Lib.hid hkk
          rw [hkk] at hlt2 ⊢
          have hkl : -1 ≤ kk ∧ kk < 4 := by omega
          obtain ⟨⟨A, B⟩, hAB⟩ : ∃ AB, t.area kk = AB := ⟨_, rfl⟩
          have har : arRes (A, B) = .tuple #[.agg (sR A).toArray, .bool B] := rfl
          have hB2 := below_up HB1.out HBV.out HB1.out.size
          have hc1 := area_any kk wr (HM.out.up hB2)
          rw [hAB, har] at hc1
          have HC1 := Lib.hid hc1
          have HC2 := Lib.hid (fun W => rarea_any t (.slice ab t.l.length cb) kk W)
          rw [hAB, har] at HC2
          have HX2 := Lib.hid (HX1.out.up HBV.out)
          have HB2 := Lib.hid hB2
          clear hkk hAB har hc1 hB2
          go_wp2_with (go_at_call 19; refine HC1.out.mono ?_; rintro e w3 ⟨rfl, b3⟩; refine Hid.out ?_)
          refine Lib.hid ?_
          have hal : Below w3.heap.size w3 (w3.alloc (.cells (sR A).toArray 27)) := (Below.refl _ _).alloc (Nat.le_refl _) _
          have HB4 := Lib.hid (below_up (below_up HBV.out b3 HBV.out.size) hal (below_up HBV.out b3 HBV.out.size).size)
          have HX4 := Lib.hid ((HX2.out.up b3).up hal)
          have HA4 := Lib.hid (Bx.new w3 27 (sR A))
          obtain ⟨g8, hg8⟩ : ∃ g, g = w3.heap.size := ⟨_, rfl⟩
          clear b3 hal HC1 HX2
          go_wp2_with (refine plS rfl (exec_store_fresh _ (.tmp 8) (.tmp 74) rfl (sR A) _ w3.heap.size rfl rfl rfl sp_info rfl (sR_one _)) ?_; refine Hid.out ?_)
          refine Lib.hid ?_
          generalize w3.alloc (.cells (sR A).toArray 27) = w4 at *
          rw [← hg8] at HA4 ⊢
          clear hg8
          have hr4 := rangeAll HX4.out
          go_wp2_with (first
            | (refine plV rfl (rqV t (.slice ab t.l.length cb)) (exec_load_any 31 (.tmp 3) rfl w.heap.size 0 (rqR t (.slice ab t.l.length cb)) _ rfl hr4 Try.underlying31 rfl refs_info) ?_)
            | (go_at_call 47; refine (HC2.out _).mono ?_; rintro e w5 ⟨rfl, b5⟩; refine Hid.out ?_))
          refine Lib.hid ?_
          have hal : Below w5.heap.size w5 (w5.alloc (.cells (sR A).toArray 27)) := (Below.refl _ _).alloc (Nat.le_refl _) _
          have hal2 := below_up b5 hal b5.size
          have HB6 := Lib.hid (below_up HB4.out hal2 HB4.out.size)
          have HX6 := Lib.hid (HX4.out.up hal2)
          have HA6 := Lib.hid (HA4.out.up hal2)
          have HE6 := Lib.hid (Bx.new w5 27 (sR A))
          obtain ⟨g10, hg10⟩ : ∃ g, g = w5.heap.size := ⟨_, rfl⟩
          clear b5 hal hal2 HC2 HX4 HA4 HB4 hr4
          go_wp2_with (refine plS rfl (exec_store_fresh _ (.tmp 10) (.tmp 80) rfl (sR A) _ w5.heap.size rfl rfl rfl sp_info rfl (sR_one _)) ?_; refine Hid.out ?_)
          refine Lib.hid ?_
          generalize w5.alloc (.cells (sR A).toArray 27) = w6 at *
          rw [← hg10] at HE6 ⊢
          clear hg10
          go_wp2
          have HB7 := Lib.hid (below_up HB6.out (Below.refl _ _).drew HB6.out.size)
          have HX7 := Lib.hid (HX6.out.up (Below.refl _ _).drew)
          have HA7 := Lib.hid (HA6.out.up (Below.refl _ _).drew)
          have HE7 := Lib.hid (HE6.out.up (Below.refl _ _).drew)
          refine wp_region_noPanic ?_
          refine wp_region_held_drew (S := HeldSm g8 g10 w.heap.size A t (.slice ab t.l.length cb)) (by kernel_rfl) ⟨rangeAll HA7.out, rangeAll HE7.out, rangeAll HX7.out⟩ (fun hHeld => ?_)
          generalize w6.drew = wd at *
          clear HB6 HX6 HA6 HE6
          refine held_take (v := sV A) 0 rfl (by kernel_rfl) (by kernel_rfl) (by kernel_rfl) (fun _ _ _ h => h) (by rfl) (fun W hSw => exec_load_any _ (.tmp 8) rfl g8 0 (sR A) _ rfl hSw.1 Try.underlying27 rfl sp_info) (by assumption) ?_
          simp only [List.setIfInBounds_toArray, List.set_cons_zero, List.set_cons_succ]
          refine held_take (v := sV A) 1 rfl (by kernel_rfl) (by kernel_rfl) (by kernel_rfl) (fun _ _ _ h => h) (by rfl) (fun W hSw => exec_load_any _ (.tmp 10) rfl g10 0 (sR A) _ rfl hSw.2.1 Try.underlying27 rfl sp_info) (by assumption) ?_
          simp only [List.setIfInBounds_toArray, List.set_cons_zero, List.set_cons_succ]
          refine held_take (v := .bool false) 2 rfl (by kernel_rfl) (by kernel_rfl) (by kernel_rfl) (fun _ _ _ h => h) (by rfl) (fun W hSw => (exec_neq_spn _ _ _ rfl A A rfl rfl).trans (by rw [eqSp_self]; rfl)) (by assumption) ?_
          simp only [List.setIfInBounds_toArray, List.set_cons_zero, List.set_cons_succ]
          refine held_take (v := ?v301) 3 rfl (by kernel_rfl) (by kernel_rfl) (by kernel_rfl) (fun _ _ _ h => h) (by rfl) ?y301 (by assumption) ?_
          case y301 => (intro w hSw; unfold HeldSm at hSw; go_simp; (try with_reducible rfl); (try omega))
          simp only [List.setIfInBounds_toArray, List.set_cons_zero, List.set_cons_succ]
          refine held_take (v := ?v304) 4 rfl (by kernel_rfl) (by kernel_rfl) (by kernel_rfl) (fun _ _ _ h => h) (by rfl) ?y304 (by assumption) ?_
          case y304 => (intro w hSw; unfold HeldSm at hSw; go_simp; (try with_reducible rfl); (try omega))
          simp only [List.setIfInBounds_toArray, List.set_cons_zero, List.set_cons_succ]
          refine held_take (v := ?v307) 5 rfl (by kernel_rfl) (by kernel_rfl) (by kernel_rfl) (fun _ _ _ h => h) (by rfl) ?y307 (by assumption) ?_
          case y307 => (intro w hSw; unfold HeldSm at hSw; go_simp; (try with_reducible rfl); (try omega))
          simp only [List.setIfInBounds_toArray, List.set_cons_zero, List.set_cons_succ]
          refine held_take (v := .bool false) 6 rfl (by kernel_rfl) (by kernel_rfl) (by kernel_rfl) (fun _ _ _ h => h) (by rfl) (fun W hSw => exec_neq_bb _ _ _ rfl B rfl rfl) (by assumption) ?_
          simp only [List.setIfInBounds_toArray, List.set_cons_zero, List.set_cons_succ]
          refine held_take (v := ?v312) 7 rfl (by kernel_rfl) (by kernel_rfl) (by kernel_rfl) (fun _ _ _ h => h) (by rfl) ?y312 (by assumption) ?_
          case y312 => (intro w hSw; unfold HeldSm at hSw; go_simp; (try with_reducible rfl); (try omega))
          simp only [List.setIfInBounds_toArray, List.set_cons_zero, List.set_cons_succ]
          refine held_take (v := ?v315) 8 rfl (by kernel_rfl) (by kernel_rfl) (by kernel_rfl) (fun _ _ _ h => h) (by rfl) ?y315 (by assumption) ?_
          case y315 => (intro w hSw; unfold HeldSm at hSw; go_simp; (try with_reducible rfl); (try omega))
          simp only [List.setIfInBounds_toArray, List.set_cons_zero, List.set_cons_succ]
          refine held_take (v := ?v318) 9 rfl (by kernel_rfl) (by kernel_rfl) (by kernel_rfl) (fun _ _ _ h => h) (by rfl) ?y318 (by assumption) ?_
          case y318 => (intro w hSw; unfold HeldSm at hSw; go_simp; (try with_reducible rfl); (try omega))
          simp only [List.setIfInBounds_toArray, List.set_cons_zero, List.set_cons_succ]
          refine held_take (v := ?v321) 10 rfl (by kernel_rfl) (by kernel_rfl) (by kernel_rfl) (fun _ _ _ h => h) (by rfl) ?y321 (by assumption) ?_
          case y321 => (intro w hSw; unfold HeldSm at hSw; go_simp; (try with_reducible rfl); (try omega))
          simp only [List.setIfInBounds_toArray, List.set_cons_zero, List.set_cons_succ]
          refine held_take (v := rqV t (.slice ab t.l.length cb)) 12 rfl (by kernel_rfl) (by kernel_rfl) (by kernel_rfl) (fun _ _ _ h => h) (by rfl) (fun W hSw => exec_load_any _ (.tmp 3) rfl w.heap.size 0 (rqR t (.slice ab t.l.length cb)) _ rfl hSw.2.2 Try.underlying31 rfl refs_info) (by assumption) ?_
          simp only [List.setIfInBounds_toArray, List.set_cons_zero, List.set_cons_succ]
          refine held_take (v := ?v326) 13 rfl (by kernel_rfl) (by kernel_rfl) (by kernel_rfl) (fun _ _ _ h => h) (by rfl) ?y326 (by assumption) ?_
          case y326 => (intro w hSw; unfold HeldSm at hSw; go_simp; (try with_reducible rfl); (try omega))
          simp only [List.setIfInBounds_toArray, List.set_cons_zero, List.set_cons_succ]
          refine held_one 11 rfl (by kernel_rfl) (by rfl) (fun K hK => ?_)
          go_simp
          refine (left_any kk wd (HM.out.up (below_up HB1.out HB7.out HB1.out.size))).mono ?_
          rintro e w8 ⟨v8, rfl, i8, b8⟩
          have HB8 := Lib.hid (below_up HB7.out b8 HB7.out.size)
          have HX8 := Lib.hid (HX7.out.up b8)
          have HA8 := Lib.hid (HA7.out.up b8)
          have HE8 := Lib.hid (HE7.out.up b8)
          refine hK.out _ _ ⟨rangeAll HA8.out, rangeAll HE8.out, rangeAll HX8.out⟩ (fun _ => ?_)
          (try simp only [Act.put, List.setIfInBounds_toArray, List.set_cons_zero, List.set_cons_succ])
          clear hK K b8 HX7 HA7 HE7 HB7
          refine held_one 14 rfl (by kernel_rfl) (by rfl) (fun K hK => ?_)
          go_simp
          refine (rleft_any t (.slice ab t.l.length cb) kk w8 HM.out.wf HLL.out (HK.out.below (below_up HB1.out HB8.out HB1.out.size))).mono ?_
          rintro e w9 ⟨v9, rfl, i9, b9⟩
          have HB9 := Lib.hid (below_up HB8.out b9 HB8.out.size)
          have HX9 := Lib.hid (HX8.out.up b9)
          have HA9 := Lib.hid (HA8.out.up b9)
          have HE9 := Lib.hid (HE8.out.up b9)
          have i9b := IsC.below i8 b9
          refine hK.out _ _ ⟨rangeAll HA9.out, rangeAll HE9.out, rangeAll HX9.out⟩ (fun _ => ?_)
          (try simp only [Act.put, List.setIfInBounds_toArray, List.set_cons_zero, List.set_cons_succ])
          clear hK K b9 HX8 HA8 HE8 HB8 i8
          refine held_one 15 rfl (by kernel_rfl) (by rfl) (fun K hK => ?_)
          go_simp
          refine (rsame_any v8 v9 _ w9 i9b i9 (by have := left_length HM.out.wf kk; have := HLL.out; omega)).mono ?_
          rintro e w10 ⟨rfl, b10⟩
          have HB10 := Lib.hid (below_up HB9.out b10 HB9.out.size)
          refine hK.out _ _ ⟨rangeAll (HA9.out.up b10), rangeAll (HE9.out.up b10), rangeAll (HX9.out.up b10)⟩ (fun _ => ?_)
          (try simp only [Act.put, List.setIfInBounds_toArray, List.set_cons_zero, List.set_cons_succ])
          clear hK K b10 HX9 HA9 HE9 HB9 i9 i9b
          refine held_take (v := ?v360) 16 rfl (by kernel_rfl) (by kernel_rfl) (by kernel_rfl) (fun _ _ _ h => h) (by rfl) ?y360 (by assumption) ?_
          case y360 => (intro w hSw; unfold HeldSm at hSw; go_simp; (try with_reducible rfl); (try omega))
          simp only [List.setIfInBounds_toArray, List.set_cons_zero, List.set_cons_succ]
          refine held_take (v := ?v363) 17 rfl (by kernel_rfl) (by kernel_rfl) (by kernel_rfl) (fun _ _ _ h => h) (by rfl) ?y363 (by assumption) ?_
          case y363 => (intro w hSw; unfold HeldSm at hSw; go_simp; (try with_reducible rfl); (try omega))
          simp only [List.setIfInBounds_toArray, List.set_cons_zero, List.set_cons_succ]
          refine wpAnyH_done (by kernel_rfl) ?_ _
          refine NoPanic.normal ?_
          have k1 : IntKind.i64.wrap (kk + 1) = kk + 1 := by simp [IntKind.wrap, IntKind.bits, IntKind.signed]; omega
          go_wp2
          go_roundw
          case rel => exact ⟨j2 + 1, by omega, by rw [← HKJ.out]; first | rfl | (congr 1; omega), HB10⟩
          case measure => simp only [intOf]; have := HKJ.out; omega
        · obtain rfl : j2 = 5 := by omega
          have HF := Lib.hid (below_up HB1.out HBV.out HB1.out.size)
          go_wp2
          go_ret
          exact ⟨rfl, HF.out⟩
end Go.Proofs.Ytgelbeglffjdaaa

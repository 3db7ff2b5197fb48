/- Stage 14, PoolLowest: a new thing has the lowest number that no thing has. -/
import Derived.Test.YtoliijajhikhgaaDoorRun14
namespace Go.Proofs.YtoliijajhikhgaaDoor
open Go Go.RowKit Go.Shelf
attribute [local go_sem] Oper.semAt_some

section
variable {P : Program} {ρ : Operand → Value} {o : Oper} {W : World}
theorem exec_lss14 (x y : Operand) (ty : TypeId) (ho : o.op = .binOp .lss 3 x y ty) (a b : Int) (hx : ρ x = .int .i64 a) (hy : ρ y = .int .i64 b) (q : Bool) (h : decide (a < b) = q) : (execOp ρ o).run Tryd.prog W = .ok (.value (.bool q)) W := by
  subst h
  unfold execOp
  simp only [ho, hx, hy]
  go_simp
theorem exec_eql14 (x y : Operand) (ty : TypeId) (ho : o.op = .binOp .eql 3 x y ty) (a b : Int) (hx : ρ x = .int .i64 a) (hy : ρ y = .int .i64 b) (q : Bool) (h : (a == b) = q) : (execOp ρ o).run Tryd.prog W = .ok (.value (.bool q)) W := by
  subst h
  unfold execOp
  simp only [ho, hx, hy]
  go_simp
theorem exec_neq14 (x y : Operand) (ty : TypeId) (ho : o.op = .binOp .neq 3 x y ty) (a b : Int) (hx : ρ x = .int .i64 a) (hy : ρ y = .int .i64 b) (q : Bool) (h : (a != b) = q) : (execOp ρ o).run Tryd.prog W = .ok (.value (.bool q)) W := by
  subst h
  unfold execOp
  simp only [ho, hx, hy]
  go_simp
end
theorem field14X (y : Th14) (W : World) : (Instr.field 50 (.agg (xR y).toArray) 4).run Tryd.prog W = .ok (.int .i64 y.u) W := by kernel_rfl
theorem exec_field14X {ρ : Operand → Value} {o : Oper} {W : World} (x : Operand) (ho : o.op = .field 50 x 4) (y : Th14) (hx : ρ x = .agg (xR y).toArray) : (execOp ρ o).run Tryd.prog W = .ok (.value (.int .i64 y.u)) W := by
  have h := field14X y W
  unfold execOp
  simp only [ho, hx, Sem.run_bind, h, Result.andThen_ok, Sem.run_pure]
theorem use_add14 {us : List Int} {i : Nat} (h : i ≠ freeU us) : useAt (addU us) (i : Int) = useAt us (i : Int) := by
  rw [useAt_nat, useAt_nat]
  unfold addU
  rw [usN_set (reachU_len us).1, if_neg h, usN_reach]
theorem use_add14s {us : List Int} : useAt (addU us) (freeU us : Int) = 1 := by
  rw [useAt_nat]
  unfold addU
  rw [usN_set (reachU_len us).1, if_pos rfl]
/-- Behind 'run': the pool, the document's, its box. -/
structure LowZ (w : World) (pt : Nat) (room : Int) (T : List (Value × Int)) (ud : List Int) (vd : Value) (g : Nat) (X : World) : Prop where
  z : Z14 w pt room T X
  d : DU w ud vd X
  p : Bx X g 32 (p14R true room vd)
section
variable {w X Y : World} {pt : Nat} {room : Int} {T : List (Value × Int)} {ud : List Int} {vd : Value} {g : Nat}
theorem LowZ.up (h : LowZ w pt room T ud vd g X) (hb : Below X.heap.size X Y) : LowZ w pt room T ud vd g Y := ⟨h.z.up hb, h.d.up hb, h.p.up hb⟩
theorem LowZ.drew (h : LowZ w pt room T ud vd g X) : LowZ w pt room T ud vd g X.drew := h.up (Below.refl _ _).drew
end
set_option maxRecDepth 100000 in
set_option maxHeartbeats 32000000 in
theorem low14_walk (a : Option Addr) (n0 c : Nat) (l : List St14) (s : ByteArray) (w : World) (hS : S14 w (.slice a n0 c) l) (hz : TzE w w.heap.size) :
    Calls Tryd.prog 4 #[.slice a n0 c, .string s] w fun e w' => e = .returned (.bool true) ∧ Below w.heap.size w w' := by
  have HA := Lib.hid (awake14 w hz)
  have HSM := Lib.hid (fun (W : World) (hb : Below w.heap.size w W) => small14 _ l W (hS.c.below hb))
  have HS := Lib.hid hS
  have HTZ := Lib.hid hz
  clear hS hz
  go_enter Tryd.func4, Tryd.ntmps4
  go_wp2_with (first
    | (go_at_call 5; refine HA.out.mono ?_; rintro e w1 ⟨rfl, b1⟩)
    | (go_at_call 6; refine (HSM.out _ b1).mono ?_; rintro e _ ⟨rfl, ⟨few, rfl, hfew⟩⟩; refine Hid.out ?_))
  refine Lib.hid ?_
  have HB1 := Lib.hid b1
  have HFEW := Lib.hid hfew
  clear b1 hfew HA HSM
  cases few with
  | false =>
    go_wp2
    go_ret
    exact ⟨rfl, HB1.out⟩
  | true =>
    obtain ⟨hl, hok⟩ := HFEW.out rfl
    have HOK := Lib.hid hok
    clear HFEW hok
    by_cases hts : (s.size : Int) > 50
    · go_wp2
      go_ret
      exact ⟨rfl, HB1.out⟩
    · have hss : s.size ≤ 50 := by omega
      have HNEW := Lib.hid (Z14.new (n := 30) (by decide) (by decide) HTZ.out HB1.out)
      go_wp2_with (go_at_call 7; refine HNEW.out.mono ?_; rintro e w2 ⟨pt, rfl, z2, _⟩; refine Hid.out ?_)
      refine Lib.hid ?_
      have Z2 := Lib.hid z2
      clear z2 HNEW
      go_wp2_with (go_at_call 8; refine (rnew14 30 w2 (by decide) (by decide)).mono ?_; rintro e w3 ⟨rfl, b3⟩; refine Hid.out ?_)
      refine Lib.hid ?_
      have HRUN := Lib.hid (run14 w w3 pt 30 (.slice none 0 0) _ l ⟨[], rfl, Z2.out.up b3⟩ (DU.none w w3) (by decide) HS.out hl HOK.out)
      clear b3 Z2
      go_wp2_with (go_at_call 9; refine HRUN.out.mono ?_; rintro e w4 ⟨us, vd, rfl, z4, d4, u4, _⟩; refine Hid.out ?_)
      refine Lib.hid ?_
      obtain ⟨T, hT, zT⟩ := z4
      have hl4 := u4.len
      have hTl : T.length ≤ 60 := by rw [← usT_len, hT]; exact hl4
      have ez : (#[.bool false, .int .i64 0, .slice none 0 0] : Array Value) = (p14R false 0 (.slice none 0 0)).toArray := rfl
      have HX0 := Lib.hid (Bx.new w4 32 (p14R false 0 (.slice none 0 0)))
      have hbf := below_fresh w4 (.cells (p14R false 0 (.slice none 0 0)).toArray 32) (p14R true 30 vd).toArray
      have HLZ := Lib.hid (show LowZ w pt 30 T us vd w4.heap.size _ from ⟨zT.up hbf, d4.up hbf, HX0.out.row (p14R true 30 vd)⟩)
      have HDO := Lib.hid d4.one
      have HU := Lib.hid u4
      have HT := Lib.hid hT
      clear HRUN zT d4 u4 hbf hT
      by_cases hf : (cntU us : Int) < 30
      · have HAT := Lib.hid (HLZ.out.z.addText s (by omega) (by rw [HT.out]; exact hf) (by omega))
        rw [HT.out] at HAT
        go_wp2_with (first
          | (refine wpList_store_bx rfl 32 (.tmp 8) (.tmp 33) rfl w4.heap.size (p14R true 30 vd) _ rfl rfl HX0.out p14_info rfl (p14_one true 30 vd HDO.out) ?_)
          | (go_at_call 17; refine HAT.out.mono ?_; rintro e w5 ⟨rfl, z5, k5⟩; refine Hid.out ?_))
        refine Lib.hid ?_
        have HL5 := Lib.hid (show LowZ w pt 30 (addT T (.iface 9 (.string s))) us vd w4.heap.size w5 from ⟨z5, HLZ.out.d.kz k5, k5.bx HLZ.out.p (by decide) (by decide) (by decide)⟩)
        have HUT := Lib.hid (show usT (addT T (.iface 9 (.string s))) = addU us by rw [usT_add, HT.out])
        have HAT2 := Lib.hid (show atT (addT T (.iface 9 (.string s))) (freeU us : Int) = (.iface 9 (.string s), 1) by
          have := addT_at T (.iface 9 (.string s))
          rw [HT.out] at this
          exact atT_of this)
        generalize addT T (.iface 9 (.string s)) = T2 at *
        have HLOW := Lib.hid (fun (i : Nat) (h : i < freeU us) => freeU_low us i h)
        have HUA := Lib.hid (fun (i : Nat) (h : i ≠ freeU us) => use_add14 (us := us) h)
        have hfl : freeU us ≤ 60 := Nat.le_trans (freeU_le us) hl4
        generalize freeU us = f at *
        clear z5 k5 HAT HLZ HX0 HT hl4
        go_wp2_with fail
        go_loopw [12] (fun r wr => ∃ j : Nat, j ≤ 40 ∧ r = .int .i64 (j : Int) ∧ Hid (LowZ w pt 30 T2 us vd w4.heap.size wr)) (fun r _ => 40 - (intOf r).toNat)
        case atStart => exact ⟨0, by omega, rfl, HL5⟩
        case round =>
          obtain ⟨j, hj, rfl, HL⟩ := hrel
          by_cases hlt : j < 40
          · have hlti : (j : Int) < 40 := by omega
            have kj : IntKind.i64.wrap ((j : Int) + 1) = (j : Int) + 1 := by simp [IntKind.wrap, IntKind.bits, IntKind.signed]; omega
            have HD := Lib.hid HL.out.drew
            clear HL
            have HDR := Lib.hid (rangeAll HD.out.p)
            go_wp2_with fail
            refine wp_region_noPanic ?_
            refine wp_region_held_drew (S := RunS w4.heap.size 30 vd) (by kernel_rfl) HDR.out (fun hHeld => ?_)
            generalize wr.drew = wd at *
            clear HDR
            have HE0 := Lib.hid (fun (h : j ≠ f) => show (atT T2 (j : Int)).2 = useAt us (j : Int) by rw [atT_use, HUT.out, HUA.out j h])
            by_cases hjf : j < f
            · have HE := Lib.hid (HE0.out (by omega))
              refine held_take (v := ?v138) 0 rfl (by kernel_rfl) (by kernel_rfl) (by kernel_rfl) (fun _ _ _ h => h) (by rfl) ?y138 (by assumption) ?_
              case y138 => (intro w hSw; unfold RunS at hSw; go_simp; (try with_reducible rfl); (try omega))
              simp only [List.setIfInBounds_toArray, List.set_cons_zero, List.set_cons_succ]
              refine held_take (v := ?v141) 1 rfl (by kernel_rfl) (by kernel_rfl) (by kernel_rfl) (fun _ _ _ h => h) (by rfl) ?y141 (by assumption) ?_
              case y141 => (intro w hSw; unfold RunS at hSw; go_simp; (try with_reducible rfl); (try omega))
              simp only [List.setIfInBounds_toArray, List.set_cons_zero, List.set_cons_succ]
              refine held_take (v := .bool true) 2 rfl (by kernel_rfl) (by kernel_rfl) (by kernel_rfl) (fun _ _ _ h => h) (by rfl) (fun W hSw => exec_lss14 (.tmp 56) (.tmp 57) _ rfl (j : Int) (f : Int) rfl rfl true (decide_eq_true (by omega))) (by assumption) ?_
              simp only [List.setIfInBounds_toArray, List.set_cons_zero, List.set_cons_succ]
              refine held_take (v := ?v146) 3 rfl (by kernel_rfl) (by kernel_rfl) (by kernel_rfl) (fun _ _ _ h => h) (by rfl) ?y146 (by assumption) ?_
              case y146 => (intro w hSw; unfold RunS at hSw; go_simp; (try with_reducible rfl); (try omega))
              simp only [List.setIfInBounds_toArray, List.set_cons_zero, List.set_cons_succ]
              refine held_take (v := ?v149) 4 rfl (by kernel_rfl) (by kernel_rfl) (by kernel_rfl) (fun _ _ _ h => h) (by rfl) ?y149 (by assumption) ?_
              case y149 => (intro w hSw; unfold RunS at hSw; go_simp; (try with_reducible rfl); (try omega))
              simp only [List.setIfInBounds_toArray, List.set_cons_zero, List.set_cons_succ]
              refine held_take (v := ?v152) 5 rfl (by kernel_rfl) (by kernel_rfl) (by kernel_rfl) (fun _ _ _ h => h) (by rfl) ?y152 (by assumption) ?_
              case y152 => (intro w hSw; unfold RunS at hSw; go_simp; (try with_reducible rfl); (try omega))
              simp only [List.setIfInBounds_toArray, List.set_cons_zero, List.set_cons_succ]
              refine held_one 6 rfl (by kernel_rfl) (by rfl) (fun K hK => ?_)
              go_simp
              refine (HD.out.z.uses (j : Int)).mono ?_
              rintro e X1 ⟨rfl, b1⟩
              have HD1 := Lib.hid (HD.out.up b1)
              refine hK.out _ _ (rangeAll HD1.out.p) (fun hHeld => ?_)
              clear hK K b1 HD
              refine held_take (v := .bool false) 7 rfl (by kernel_rfl) (by kernel_rfl) (by kernel_rfl) (fun _ _ _ h => h) (by rfl) (fun W hSw => exec_eql14 (.tmp 62) (.const (.int .i64 0)) _ rfl ((atT T2 (j : Int)).2) 0 rfl rfl false (by rw [HE.out]; have := HLOW.out j hjf; rw [useAt_nat]; simp; omega)) (by assumption) ?_
              simp only [List.setIfInBounds_toArray, List.set_cons_zero, List.set_cons_succ]
              refine held_take (v := ?v164) 8 rfl (by kernel_rfl) (by kernel_rfl) (by kernel_rfl) (fun _ _ _ h => h) (by rfl) ?y164 (by assumption) ?_
              case y164 => (intro w hSw; unfold RunS at hSw; go_simp; (try with_reducible rfl); (try omega))
              simp only [List.setIfInBounds_toArray, List.set_cons_zero, List.set_cons_succ]
              refine held_take (v := ?v167) 9 rfl (by kernel_rfl) (by kernel_rfl) (by kernel_rfl) (fun _ _ _ h => h) (by rfl) ?y167 (by assumption) ?_
              case y167 => (intro w hSw; unfold RunS at hSw; go_simp; (try with_reducible rfl); (try omega))
              simp only [List.setIfInBounds_toArray, List.set_cons_zero, List.set_cons_succ]
              refine held_take (v := ?v170) 10 rfl (by kernel_rfl) (by kernel_rfl) (by kernel_rfl) (fun _ _ _ h => h) (by rfl) ?y170 (by assumption) ?_
              case y170 => (intro w hSw; unfold RunS at hSw; go_simp; (try with_reducible rfl); (try omega))
              simp only [List.setIfInBounds_toArray, List.set_cons_zero, List.set_cons_succ]
              refine held_take (v := ?v173) 11 rfl (by kernel_rfl) (by kernel_rfl) (by kernel_rfl) (fun _ _ _ h => h) (by rfl) ?y173 (by assumption) ?_
              case y173 => (intro w hSw; unfold RunS at hSw; go_simp; (try with_reducible rfl); (try omega))
              simp only [List.setIfInBounds_toArray, List.set_cons_zero, List.set_cons_succ]
              refine held_take (v := .bool true) 12 rfl (by kernel_rfl) (by kernel_rfl) (by kernel_rfl) (fun _ _ _ h => h) (by rfl) (fun W hSw => exec_neq14 (.tmp 66) (.tmp 67) _ rfl (j : Int) (f : Int) rfl rfl true (bne_iff_ne.2 (by omega))) (by assumption) ?_
              simp only [List.setIfInBounds_toArray, List.set_cons_zero, List.set_cons_succ]
              refine held_take (v := ?v178) 13 rfl (by kernel_rfl) (by kernel_rfl) (by kernel_rfl) (fun _ _ _ h => h) (by rfl) ?y178 (by assumption) ?_
              case y178 => (intro w hSw; unfold RunS at hSw; go_simp; (try with_reducible rfl); (try omega))
              simp only [List.setIfInBounds_toArray, List.set_cons_zero, List.set_cons_succ]
              refine held_take (v := ?v181) 14 rfl (by kernel_rfl) (by kernel_rfl) (by kernel_rfl) (fun _ _ _ h => h) (by rfl) ?y181 (by assumption) ?_
              case y181 => (intro w hSw; unfold RunS at hSw; go_simp; (try with_reducible rfl); (try omega))
              simp only [List.setIfInBounds_toArray, List.set_cons_zero, List.set_cons_succ]
              refine held_take (v := ?v184) 15 rfl (by kernel_rfl) (by kernel_rfl) (by kernel_rfl) (fun _ _ _ h => h) (by rfl) ?y184 (by assumption) ?_
              case y184 => (intro w hSw; unfold RunS at hSw; go_simp; (try with_reducible rfl); (try omega))
              simp only [List.setIfInBounds_toArray, List.set_cons_zero, List.set_cons_succ]
              refine held_take (v := p14V true 30 vd) 17 rfl (by kernel_rfl) (by kernel_rfl) (by kernel_rfl) (fun _ _ _ h => h) (by rfl) (fun W hSw => exec_load_any _ (.tmp 8) rfl w4.heap.size 0 _ _ rfl hSw Tryd.underlying32 rfl p14_info) (by assumption) ?_
              simp only [List.setIfInBounds_toArray, List.set_cons_zero, List.set_cons_succ]
              refine held_take (v := ?v189) 18 rfl (by kernel_rfl) (by kernel_rfl) (by kernel_rfl) (fun _ _ _ h => h) (by rfl) ?y189 (by assumption) ?_
              case y189 => (intro w hSw; unfold RunS at hSw; go_simp; (try with_reducible rfl); (try omega))
              simp only [List.setIfInBounds_toArray, List.set_cons_zero, List.set_cons_succ]
              refine held_one 16 rfl (by kernel_rfl) (by rfl) (fun K hK => ?_)
              go_simp
              refine (HD1.out.z.uses (j : Int)).mono ?_
              rintro e X2 ⟨rfl, b2⟩
              have HD2 := Lib.hid (HD1.out.up b2)
              refine hK.out _ _ (rangeAll HD2.out.p) (fun hHeld => ?_)
              clear hK K b2 HD1
              refine held_one 19 rfl (by kernel_rfl) (by rfl) (fun K hK => ?_)
              go_simp
              refine (HD2.out.d.get true 30 (j : Int)).mono ?_
              rintro e X3 ⟨⟨y, rfl, hy⟩, b3⟩
              have HD3 := Lib.hid (HD2.out.up b3)
              refine hK.out _ _ (rangeAll HD3.out.p) (fun hHeld => ?_)
              clear hK K b3 HD2
              refine held_take (v := .int .i64 y.u) 20 rfl (by kernel_rfl) (by kernel_rfl) (by kernel_rfl) (fun _ _ _ h => h) (by rfl) (fun W hSw => exec_field14X (.tmp 75) rfl y rfl) (by assumption) ?_
              simp only [List.setIfInBounds_toArray, List.set_cons_zero, List.set_cons_succ]
              refine held_take (v := .bool false) 21 rfl (by kernel_rfl) (by kernel_rfl) (by kernel_rfl) (fun _ _ _ h => h) (by rfl) (fun W hSw => exec_neq14 (.tmp 72) (.tmp 76) _ rfl ((atT T2 (j : Int)).2) y.u rfl rfl false (by rw [HE.out, hy]; simp)) (by assumption) ?_
              simp only [List.setIfInBounds_toArray, List.set_cons_zero, List.set_cons_succ]
              refine held_take (v := ?v210) 22 rfl (by kernel_rfl) (by kernel_rfl) (by kernel_rfl) (fun _ _ _ h => h) (by rfl) ?y210 (by assumption) ?_
              case y210 => (intro w hSw; unfold RunS at hSw; go_simp; (try with_reducible rfl); (try omega))
              simp only [List.setIfInBounds_toArray, List.set_cons_zero, List.set_cons_succ]
              refine held_take (v := ?v213) 23 rfl (by kernel_rfl) (by kernel_rfl) (by kernel_rfl) (fun _ _ _ h => h) (by rfl) ?y213 (by assumption) ?_
              case y213 => (intro w hSw; unfold RunS at hSw; go_simp; (try with_reducible rfl); (try omega))
              simp only [List.setIfInBounds_toArray, List.set_cons_zero, List.set_cons_succ]
              refine wpAnyH_done (by kernel_rfl) ?_ _
              refine NoPanic.normal ?_
              go_wp2
              go_roundw
              case rel => exact ⟨j + 1, hlt, by go_num, HD3⟩
              case measure => simp [intOf]; omega
            · by_cases hje : j = f
              · have hjfe : ((j : Int) != (f : Int)) = false := by rw [hje]; simp
                have HJE := Lib.hid hje
                clear hje
                refine held_take (v := ?v226) 0 rfl (by kernel_rfl) (by kernel_rfl) (by kernel_rfl) (fun _ _ _ h => h) (by rfl) ?y226 (by assumption) ?_
                case y226 => (intro w hSw; unfold RunS at hSw; go_simp; (try with_reducible rfl); (try omega))
                simp only [List.setIfInBounds_toArray, List.set_cons_zero, List.set_cons_succ]
                refine held_take (v := ?v229) 1 rfl (by kernel_rfl) (by kernel_rfl) (by kernel_rfl) (fun _ _ _ h => h) (by rfl) ?y229 (by assumption) ?_
                case y229 => (intro w hSw; unfold RunS at hSw; go_simp; (try with_reducible rfl); (try omega))
                simp only [List.setIfInBounds_toArray, List.set_cons_zero, List.set_cons_succ]
                refine held_take (v := .bool false) 2 rfl (by kernel_rfl) (by kernel_rfl) (by kernel_rfl) (fun _ _ _ h => h) (by rfl) (fun W hSw => exec_lss14 (.tmp 56) (.tmp 57) _ rfl (j : Int) (f : Int) rfl rfl false (decide_eq_false (by omega))) (by assumption) ?_
                simp only [List.setIfInBounds_toArray, List.set_cons_zero, List.set_cons_succ]
                refine held_take (v := ?v234) 3 rfl (by kernel_rfl) (by kernel_rfl) (by kernel_rfl) (fun _ _ _ h => h) (by rfl) ?y234 (by assumption) ?_
                case y234 => (intro w hSw; unfold RunS at hSw; go_simp; (try with_reducible rfl); (try omega))
                simp only [List.setIfInBounds_toArray, List.set_cons_zero, List.set_cons_succ]
                refine held_skip 4 rfl (by kernel_rfl) (by kernel_rfl) (by kernel_rfl) (fun _ _ _ h => h) (by rfl) (by assumption) ?_
                simp only [List.setIfInBounds_toArray, List.set_cons_zero, List.set_cons_succ]
                refine held_skip 5 rfl (by kernel_rfl) (by kernel_rfl) (by kernel_rfl) (fun _ _ _ h => h) (by rfl) (by assumption) ?_
                simp only [List.setIfInBounds_toArray, List.set_cons_zero, List.set_cons_succ]
                refine held_skip 6 rfl (by kernel_rfl) (by kernel_rfl) (by kernel_rfl) (fun _ _ _ h => h) (by rfl) (by assumption) ?_
                simp only [List.setIfInBounds_toArray, List.set_cons_zero, List.set_cons_succ]
                refine held_skip 7 rfl (by kernel_rfl) (by kernel_rfl) (by kernel_rfl) (fun _ _ _ h => h) (by rfl) (by assumption) ?_
                simp only [List.setIfInBounds_toArray, List.set_cons_zero, List.set_cons_succ]
                refine held_take (v := ?v245) 8 rfl (by kernel_rfl) (by kernel_rfl) (by kernel_rfl) (fun _ _ _ h => h) (by rfl) ?y245 (by assumption) ?_
                case y245 => (intro w hSw; unfold RunS at hSw; go_simp; (try with_reducible rfl); (try omega))
                simp only [List.setIfInBounds_toArray, List.set_cons_zero, List.set_cons_succ]
                refine held_take (v := ?v248) 9 rfl (by kernel_rfl) (by kernel_rfl) (by kernel_rfl) (fun _ _ _ h => h) (by rfl) ?y248 (by assumption) ?_
                case y248 => (intro w hSw; unfold RunS at hSw; go_simp; (try with_reducible rfl); (try omega))
                simp only [List.setIfInBounds_toArray, List.set_cons_zero, List.set_cons_succ]
                have HD1 := Lib.hid HD.out
                clear HD
                refine held_take (v := ?v253) 10 rfl (by kernel_rfl) (by kernel_rfl) (by kernel_rfl) (fun _ _ _ h => h) (by rfl) ?y253 (by assumption) ?_
                case y253 => (intro w hSw; unfold RunS at hSw; go_simp; (try with_reducible rfl); (try omega))
                simp only [List.setIfInBounds_toArray, List.set_cons_zero, List.set_cons_succ]
                refine held_take (v := ?v256) 11 rfl (by kernel_rfl) (by kernel_rfl) (by kernel_rfl) (fun _ _ _ h => h) (by rfl) ?y256 (by assumption) ?_
                case y256 => (intro w hSw; unfold RunS at hSw; go_simp; (try with_reducible rfl); (try omega))
                simp only [List.setIfInBounds_toArray, List.set_cons_zero, List.set_cons_succ]
                refine held_take (v := .bool false) 12 rfl (by kernel_rfl) (by kernel_rfl) (by kernel_rfl) (fun _ _ _ h => h) (by rfl) (fun W hSw => exec_neq14 (.tmp 66) (.tmp 67) _ rfl (j : Int) (f : Int) rfl rfl false (hjfe)) (by assumption) ?_
                simp only [List.setIfInBounds_toArray, List.set_cons_zero, List.set_cons_succ]
                refine held_take (v := ?v261) 13 rfl (by kernel_rfl) (by kernel_rfl) (by kernel_rfl) (fun _ _ _ h => h) (by rfl) ?y261 (by assumption) ?_
                case y261 => (intro w hSw; unfold RunS at hSw; go_simp; (try with_reducible rfl); (try omega))
                simp only [List.setIfInBounds_toArray, List.set_cons_zero, List.set_cons_succ]
                refine held_skip 14 rfl (by kernel_rfl) (by kernel_rfl) (by kernel_rfl) (fun _ _ _ h => h) (by rfl) (by assumption) ?_
                simp only [List.setIfInBounds_toArray, List.set_cons_zero, List.set_cons_succ]
                refine held_skip 15 rfl (by kernel_rfl) (by kernel_rfl) (by kernel_rfl) (fun _ _ _ h => h) (by rfl) (by assumption) ?_
                simp only [List.setIfInBounds_toArray, List.set_cons_zero, List.set_cons_succ]
                refine held_skip 16 rfl (by kernel_rfl) (by kernel_rfl) (by kernel_rfl) (fun _ _ _ h => h) (by rfl) (by assumption) ?_
                simp only [List.setIfInBounds_toArray, List.set_cons_zero, List.set_cons_succ]
                refine held_skip 17 rfl (by kernel_rfl) (by kernel_rfl) (by kernel_rfl) (fun _ _ _ h => h) (by rfl) (by assumption) ?_
                simp only [List.setIfInBounds_toArray, List.set_cons_zero, List.set_cons_succ]
                refine held_skip 18 rfl (by kernel_rfl) (by kernel_rfl) (by kernel_rfl) (fun _ _ _ h => h) (by rfl) (by assumption) ?_
                simp only [List.setIfInBounds_toArray, List.set_cons_zero, List.set_cons_succ]
                refine held_skip 19 rfl (by kernel_rfl) (by kernel_rfl) (by kernel_rfl) (fun _ _ _ h => h) (by rfl) (by assumption) ?_
                simp only [List.setIfInBounds_toArray, List.set_cons_zero, List.set_cons_succ]
                refine held_skip 20 rfl (by kernel_rfl) (by kernel_rfl) (by kernel_rfl) (fun _ _ _ h => h) (by rfl) (by assumption) ?_
                simp only [List.setIfInBounds_toArray, List.set_cons_zero, List.set_cons_succ]
                refine held_skip 21 rfl (by kernel_rfl) (by kernel_rfl) (by kernel_rfl) (fun _ _ _ h => h) (by rfl) (by assumption) ?_
                simp only [List.setIfInBounds_toArray, List.set_cons_zero, List.set_cons_succ]
                refine held_take (v := ?v280) 22 rfl (by kernel_rfl) (by kernel_rfl) (by kernel_rfl) (fun _ _ _ h => h) (by rfl) ?y280 (by assumption) ?_
                case y280 => (intro w hSw; unfold RunS at hSw; go_simp; (try with_reducible rfl); (try omega))
                simp only [List.setIfInBounds_toArray, List.set_cons_zero, List.set_cons_succ]
                refine held_take (v := ?v283) 23 rfl (by kernel_rfl) (by kernel_rfl) (by kernel_rfl) (fun _ _ _ h => h) (by rfl) ?y283 (by assumption) ?_
                case y283 => (intro w hSw; unfold RunS at hSw; go_simp; (try with_reducible rfl); (try omega))
                simp only [List.setIfInBounds_toArray, List.set_cons_zero, List.set_cons_succ]
                have HD3 := Lib.hid HD1.out
                clear HD1
                refine wpAnyH_done (by kernel_rfl) ?_ _
                refine NoPanic.normal ?_
                go_wp2
                go_roundw
                case rel => exact ⟨j + 1, hlt, by go_num, HD3⟩
                case measure => simp [intOf]; omega
              · have HE := Lib.hid (HE0.out hje)
                refine held_take (v := ?v295) 0 rfl (by kernel_rfl) (by kernel_rfl) (by kernel_rfl) (fun _ _ _ h => h) (by rfl) ?y295 (by assumption) ?_
                case y295 => (intro w hSw; unfold RunS at hSw; go_simp; (try with_reducible rfl); (try omega))
                simp only [List.setIfInBounds_toArray, List.set_cons_zero, List.set_cons_succ]
                refine held_take (v := ?v298) 1 rfl (by kernel_rfl) (by kernel_rfl) (by kernel_rfl) (fun _ _ _ h => h) (by rfl) ?y298 (by assumption) ?_
                case y298 => (intro w hSw; unfold RunS at hSw; go_simp; (try with_reducible rfl); (try omega))
                simp only [List.setIfInBounds_toArray, List.set_cons_zero, List.set_cons_succ]
                refine held_take (v := .bool false) 2 rfl (by kernel_rfl) (by kernel_rfl) (by kernel_rfl) (fun _ _ _ h => h) (by rfl) (fun W hSw => exec_lss14 (.tmp 56) (.tmp 57) _ rfl (j : Int) (f : Int) rfl rfl false (decide_eq_false (by omega))) (by assumption) ?_
                simp only [List.setIfInBounds_toArray, List.set_cons_zero, List.set_cons_succ]
                refine held_take (v := ?v303) 3 rfl (by kernel_rfl) (by kernel_rfl) (by kernel_rfl) (fun _ _ _ h => h) (by rfl) ?y303 (by assumption) ?_
                case y303 => (intro w hSw; unfold RunS at hSw; go_simp; (try with_reducible rfl); (try omega))
                simp only [List.setIfInBounds_toArray, List.set_cons_zero, List.set_cons_succ]
                refine held_skip 4 rfl (by kernel_rfl) (by kernel_rfl) (by kernel_rfl) (fun _ _ _ h => h) (by rfl) (by assumption) ?_
                simp only [List.setIfInBounds_toArray, List.set_cons_zero, List.set_cons_succ]
                refine held_skip 5 rfl (by kernel_rfl) (by kernel_rfl) (by kernel_rfl) (fun _ _ _ h => h) (by rfl) (by assumption) ?_
                simp only [List.setIfInBounds_toArray, List.set_cons_zero, List.set_cons_succ]
                refine held_skip 6 rfl (by kernel_rfl) (by kernel_rfl) (by kernel_rfl) (fun _ _ _ h => h) (by rfl) (by assumption) ?_
                simp only [List.setIfInBounds_toArray, List.set_cons_zero, List.set_cons_succ]
                refine held_skip 7 rfl (by kernel_rfl) (by kernel_rfl) (by kernel_rfl) (fun _ _ _ h => h) (by rfl) (by assumption) ?_
                simp only [List.setIfInBounds_toArray, List.set_cons_zero, List.set_cons_succ]
                refine held_take (v := ?v314) 8 rfl (by kernel_rfl) (by kernel_rfl) (by kernel_rfl) (fun _ _ _ h => h) (by rfl) ?y314 (by assumption) ?_
                case y314 => (intro w hSw; unfold RunS at hSw; go_simp; (try with_reducible rfl); (try omega))
                simp only [List.setIfInBounds_toArray, List.set_cons_zero, List.set_cons_succ]
                refine held_take (v := ?v317) 9 rfl (by kernel_rfl) (by kernel_rfl) (by kernel_rfl) (fun _ _ _ h => h) (by rfl) ?y317 (by assumption) ?_
                case y317 => (intro w hSw; unfold RunS at hSw; go_simp; (try with_reducible rfl); (try omega))
                simp only [List.setIfInBounds_toArray, List.set_cons_zero, List.set_cons_succ]
                have HD1 := Lib.hid HD.out
                clear HD
                refine held_take (v := ?v322) 10 rfl (by kernel_rfl) (by kernel_rfl) (by kernel_rfl) (fun _ _ _ h => h) (by rfl) ?y322 (by assumption) ?_
                case y322 => (intro w hSw; unfold RunS at hSw; go_simp; (try with_reducible rfl); (try omega))
                simp only [List.setIfInBounds_toArray, List.set_cons_zero, List.set_cons_succ]
                refine held_take (v := ?v325) 11 rfl (by kernel_rfl) (by kernel_rfl) (by kernel_rfl) (fun _ _ _ h => h) (by rfl) ?y325 (by assumption) ?_
                case y325 => (intro w hSw; unfold RunS at hSw; go_simp; (try with_reducible rfl); (try omega))
                simp only [List.setIfInBounds_toArray, List.set_cons_zero, List.set_cons_succ]
                refine held_take (v := .bool true) 12 rfl (by kernel_rfl) (by kernel_rfl) (by kernel_rfl) (fun _ _ _ h => h) (by rfl) (fun W hSw => exec_neq14 (.tmp 66) (.tmp 67) _ rfl (j : Int) (f : Int) rfl rfl true (bne_iff_ne.2 (by omega))) (by assumption) ?_
                simp only [List.setIfInBounds_toArray, List.set_cons_zero, List.set_cons_succ]
                refine held_take (v := ?v330) 13 rfl (by kernel_rfl) (by kernel_rfl) (by kernel_rfl) (fun _ _ _ h => h) (by rfl) ?y330 (by assumption) ?_
                case y330 => (intro w hSw; unfold RunS at hSw; go_simp; (try with_reducible rfl); (try omega))
                simp only [List.setIfInBounds_toArray, List.set_cons_zero, List.set_cons_succ]
                refine held_take (v := ?v333) 14 rfl (by kernel_rfl) (by kernel_rfl) (by kernel_rfl) (fun _ _ _ h => h) (by rfl) ?y333 (by assumption) ?_
                case y333 => (intro w hSw; unfold RunS at hSw; go_simp; (try with_reducible rfl); (try omega))
                simp only [List.setIfInBounds_toArray, List.set_cons_zero, List.set_cons_succ]
                refine held_take (v := ?v336) 15 rfl (by kernel_rfl) (by kernel_rfl) (by kernel_rfl) (fun _ _ _ h => h) (by rfl) ?y336 (by assumption) ?_
                case y336 => (intro w hSw; unfold RunS at hSw; go_simp; (try with_reducible rfl); (try omega))
                simp only [List.setIfInBounds_toArray, List.set_cons_zero, List.set_cons_succ]
                refine held_take (v := p14V true 30 vd) 17 rfl (by kernel_rfl) (by kernel_rfl) (by kernel_rfl) (fun _ _ _ h => h) (by rfl) (fun W hSw => exec_load_any _ (.tmp 8) rfl w4.heap.size 0 _ _ rfl hSw Tryd.underlying32 rfl p14_info) (by assumption) ?_
                simp only [List.setIfInBounds_toArray, List.set_cons_zero, List.set_cons_succ]
                refine held_take (v := ?v341) 18 rfl (by kernel_rfl) (by kernel_rfl) (by kernel_rfl) (fun _ _ _ h => h) (by rfl) ?y341 (by assumption) ?_
                case y341 => (intro w hSw; unfold RunS at hSw; go_simp; (try with_reducible rfl); (try omega))
                simp only [List.setIfInBounds_toArray, List.set_cons_zero, List.set_cons_succ]
                refine held_one 16 rfl (by kernel_rfl) (by rfl) (fun K hK => ?_)
                go_simp
                refine (HD1.out.z.uses (j : Int)).mono ?_
                rintro e X2 ⟨rfl, b2⟩
                have HD2 := Lib.hid (HD1.out.up b2)
                refine hK.out _ _ (rangeAll HD2.out.p) (fun hHeld => ?_)
                clear hK K b2 HD1
                refine held_one 19 rfl (by kernel_rfl) (by rfl) (fun K hK => ?_)
                go_simp
                refine (HD2.out.d.get true 30 (j : Int)).mono ?_
                rintro e X3 ⟨⟨y, rfl, hy⟩, b3⟩
                have HD3 := Lib.hid (HD2.out.up b3)
                refine hK.out _ _ (rangeAll HD3.out.p) (fun hHeld => ?_)
                clear hK K b3 HD2
                refine held_take (v := .int .i64 y.u) 20 rfl (by kernel_rfl) (by kernel_rfl) (by kernel_rfl) (fun _ _ _ h => h) (by rfl) (fun W hSw => exec_field14X (.tmp 75) rfl y rfl) (by assumption) ?_
                simp only [List.setIfInBounds_toArray, List.set_cons_zero, List.set_cons_succ]
                refine held_take (v := .bool false) 21 rfl (by kernel_rfl) (by kernel_rfl) (by kernel_rfl) (fun _ _ _ h => h) (by rfl) (fun W hSw => exec_neq14 (.tmp 72) (.tmp 76) _ rfl ((atT T2 (j : Int)).2) y.u rfl rfl false (by rw [HE.out, hy]; simp)) (by assumption) ?_
                simp only [List.setIfInBounds_toArray, List.set_cons_zero, List.set_cons_succ]
                refine held_take (v := ?v362) 22 rfl (by kernel_rfl) (by kernel_rfl) (by kernel_rfl) (fun _ _ _ h => h) (by rfl) ?y362 (by assumption) ?_
                case y362 => (intro w hSw; unfold RunS at hSw; go_simp; (try with_reducible rfl); (try omega))
                simp only [List.setIfInBounds_toArray, List.set_cons_zero, List.set_cons_succ]
                refine held_take (v := ?v365) 23 rfl (by kernel_rfl) (by kernel_rfl) (by kernel_rfl) (fun _ _ _ h => h) (by rfl) ?y365 (by assumption) ?_
                case y365 => (intro w hSw; unfold RunS at hSw; go_simp; (try with_reducible rfl); (try omega))
                simp only [List.setIfInBounds_toArray, List.set_cons_zero, List.set_cons_succ]
                refine wpAnyH_done (by kernel_rfl) ?_ _
                refine NoPanic.normal ?_
                go_wp2
                go_roundw
                case rel => exact ⟨j + 1, hlt, by go_num, HD3⟩
                case measure => simp [intOf]; omega
          · obtain rfl : j = 40 := by omega
            clear HL5
            have HTX := Lib.hid (HL.out.z.text (f : Int) s 1 HAT2.out)
            go_wp2_with (go_at_call 19; refine HTX.out.mono ?_; rintro e w6 ⟨rfl, b6⟩; refine Hid.out ?_)
            refine Lib.hid ?_
            have HL6 := Lib.hid (HL.out.up b6)
            have HUS := Lib.hid (HL6.out.z.uses (f : Int))
            rw [HAT2.out] at HUS
            clear b6 HL HTX
            go_wp2_with (go_at_call 13; refine HUS.out.mono ?_; rintro e w7 ⟨rfl, b7⟩; refine Hid.out ?_)
            refine Lib.hid ?_
            have HB7 := Lib.hid (HL6.out.up b7).z.b
            clear b7 HL6 HUS
            go_wp2
            go_ret
            exact ⟨rfl, HB7.out⟩
      · have HAT := Lib.hid (HLZ.out.z.addTextFull s (by omega) (by rw [HT.out]; omega))
        go_wp2_with (first
          | (refine wpList_store_bx rfl 32 (.tmp 8) (.tmp 33) rfl w4.heap.size (p14R true 30 vd) _ rfl rfl HX0.out p14_info rfl (p14_one true 30 vd HDO.out) ?_)
          | (go_at_call 17; refine HAT.out.mono ?_; rintro e w5 ⟨rfl, b5⟩; refine Hid.out ?_))
        refine Lib.hid ?_
        have HL5 := Lib.hid (HLZ.out.up b5)
        have HLE := Lib.hid HL5.out.z.len
        have h30 : (cntU us : Int) = 30 := by have := HU.out.cnt; omega
        rw [HT.out, h30] at HLE
        clear b5 HLZ HX0 HAT
        go_wp2_with (go_at_call 14; refine HLE.out.mono ?_; rintro e _ ⟨rfl, rfl⟩)
        go_ret
        exact ⟨rfl, HL5.out.z.b⟩
end Go.Proofs.YtoliijajhikhgaaDoor

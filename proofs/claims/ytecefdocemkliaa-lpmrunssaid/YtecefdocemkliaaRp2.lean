/- The document's prefixes: Has, Covers, Common, Compare. -/
import Derived.Test.YtecefdocemkliaaRp1
import Derived.BigQuiet
namespace Go.Proofs.Ytecefdocemkliaa
open Go Go.RowKit

set_option maxRecDepth 100000 in
set_option maxHeartbeats 8000000 in
theorem qhas_any (p : Pfx) (a : List UInt8) (w : World) (f : p.addr.length = 16) (ha : a.length = 16) :
    Calls Try.prog 27 #[p.val, arrV a] w fun r w' => r = .returned (.bool (hasP p a)) ∧ Below w.heap.size w w' := by
  have Z := Lib.hid (twoZ_new w p a)
  have HI := Lib.hid (has_iff p a)
  have HF := Lib.hid f
  have HA := Lib.hid ha
  have HB1 := Lib.hid (fun n W => qbit_any p.addr n W f)
  have HB2 := Lib.hid (fun n W => qbit_any a n W ha)
  rw [show p.val = .agg p.cells from rfl, show arrV a = .agg (byteVals a).toArray from rfl]
  clear f ha
  generalize hb : hasP p a = b at *
  have HV := Lib.hid hb
  clear hb
  go_enter Try.func27, Try.ntmps27
  go_wp2
  go_loopw [5] (fun i wr => ∃ n : Nat, n ≤ 128 ∧ i = .int .i64 (n : Int) ∧ (∀ j : Nat, j < n → bitL p.addr j = bitL a j) ∧ TwoZ w p a wr) (fun i _ => 128 - (intOf i).toNat)
  case atStart => exact ⟨0, by omega, rfl, fun j h => by omega, Z.out⟩
  case round =>
    obtain ⟨n, hn, rfl, hbits, hz⟩ := hrel
    clear Z
    have c1 := hz.1.len HF.out
    have HZ := Lib.hid hz
    have HBits := Lib.hid hbits
    clear hz hbits
    by_cases hlt : (n : Int) < p.len
    · by_cases hlt2 : n < 128
      · have hlt3 : (n : Int) < 128 := by omega
        have H1 := Lib.hid (fun W => HB1.out (n : Int) W)
        have H2 := Lib.hid (fun W => HB2.out (n : Int) W)
        by_cases hxy : bitI p.addr (n : Int) = bitI a (n : Int)
        · have HE := Lib.hid ((bitI_eq _ _ n hlt2).1 hxy)
          rw [hxy] at H1
          clear hxy
          generalize bitI a (n : Int) = x at *
          go_wp2_with fail
          refine wp_region_noPanic ?_
          refine wp_region_held_drew (S := TwoZ w p a) (by kernel_rfl) HZ.out.drew (fun hHeld => ?_)
          clear HZ c1
          refine held_take (v := ?v46) 0 rfl (by kernel_rfl) (by kernel_rfl) (by kernel_rfl) (fun _ _ _ h => h) (by rfl) ?y46 (by assumption) ?_
          case y46 => (intro w hSw; unfold TwoZ at hSw; go_simp; (try with_reducible rfl); (try omega))
          simp only [List.setIfInBounds_toArray, List.set_cons_zero, List.set_cons_succ]
          refine held_take (v := ?v49) 2 rfl (by kernel_rfl) (by kernel_rfl) (by kernel_rfl) (fun _ _ _ h => h) (by rfl) ?y49 (by assumption) ?_
          case y49 => (intro w hSw; unfold TwoZ at hSw; go_simp; (try with_reducible rfl); (try omega))
          simp only [List.setIfInBounds_toArray, List.set_cons_zero, List.set_cons_succ]
          refine held_take (v := ?v52) 5 rfl (by kernel_rfl) (by kernel_rfl) (by kernel_rfl) (fun _ _ _ h => h) (by rfl) ?y52 (by assumption) ?_
          case y52 => (intro w hSw; unfold TwoZ at hSw; go_simp; (try with_reducible rfl); (try omega))
          simp only [List.setIfInBounds_toArray, List.set_cons_zero, List.set_cons_succ]
          refine held_take (v := arrV p.addr) 1 rfl (by kernel_rfl) (by kernel_rfl) (by kernel_rfl) (fun _ _ _ h => h) (by rfl) (fun W hSw => exec_load_adr (.tmp 16) rfl w.heap.size p HF.out rfl hSw.1) (by assumption) ?_
          simp only [List.setIfInBounds_toArray, List.set_cons_zero, List.set_cons_succ]
          refine held_take (v := arrV a) 4 rfl (by kernel_rfl) (by kernel_rfl) (by kernel_rfl) (fun _ _ _ h => h) (by rfl) (fun W hSw => exec_load_arrT (.tmp 3) rfl (w.heap.size + 1) a (by rw [HA.out]; exact arr16P) rfl hSw.2.1) (by assumption) ?_
          simp only [List.setIfInBounds_toArray, List.set_cons_zero, List.set_cons_succ]
          refine held_one 3 rfl (by kernel_rfl) (by rfl) (fun K hK => ?_)
          go_simp
          refine (H1.out _).mono ?_
          rintro e w1 ⟨rfl, b1⟩
          refine hK.out _ _ (TwoZ.up hHeld b1) (fun hHeld => ?_)
          clear hK K
          refine held_one 6 rfl (by kernel_rfl) (by rfl) (fun K hK => ?_)
          go_simp
          refine (H2.out _).mono ?_
          rintro e w2 ⟨rfl, b2⟩
          refine hK.out _ _ (TwoZ.up hHeld b2) (fun hHeld => ?_)
          clear hK K
          refine held_take (v := ?v71) 7 rfl (by kernel_rfl) (by kernel_rfl) (by kernel_rfl) (fun _ _ _ h => h) (by rfl) ?y71 (by assumption) ?_
          case y71 => (intro w hSw; unfold TwoZ at hSw; go_simp; (try with_reducible rfl); (try omega))
          simp only [List.setIfInBounds_toArray, List.set_cons_zero, List.set_cons_succ]
          refine wpAnyH_done (by kernel_rfl) ?_ _
          refine NoPanic.normal ?_
          have HZ := Lib.hid hHeld
          clear hHeld
          go_wp2
          go_roundw
          case rel => exact ⟨n + 1, by omega, by go_num, fun j hj => by
            by_cases hjn : j = n
            · subst hjn; exact HE.out
            · exact HBits.out j (by omega), HZ.out⟩
          case measure => simp [intOf]; omega
        · have HE : Hid (b = false) := by
            cases b
            · exact rfl
            · exact absurd ((bitI_eq _ _ n hlt2).2 (HI.out.1 rfl n hlt2 hlt)) hxy
          generalize bitI p.addr (n : Int) = y at *
          generalize bitI a (n : Int) = x at *
          go_wp2_with fail
          refine wp_region_noPanic ?_
          refine wp_region_held_drew (S := TwoZ w p a) (by kernel_rfl) HZ.out.drew (fun hHeld => ?_)
          clear HZ c1
          refine held_take (v := ?v95) 0 rfl (by kernel_rfl) (by kernel_rfl) (by kernel_rfl) (fun _ _ _ h => h) (by rfl) ?y95 (by assumption) ?_
          case y95 => (intro w hSw; unfold TwoZ at hSw; go_simp; (try with_reducible rfl); (try omega))
          simp only [List.setIfInBounds_toArray, List.set_cons_zero, List.set_cons_succ]
          refine held_take (v := ?v98) 2 rfl (by kernel_rfl) (by kernel_rfl) (by kernel_rfl) (fun _ _ _ h => h) (by rfl) ?y98 (by assumption) ?_
          case y98 => (intro w hSw; unfold TwoZ at hSw; go_simp; (try with_reducible rfl); (try omega))
          simp only [List.setIfInBounds_toArray, List.set_cons_zero, List.set_cons_succ]
          refine held_take (v := ?v101) 5 rfl (by kernel_rfl) (by kernel_rfl) (by kernel_rfl) (fun _ _ _ h => h) (by rfl) ?y101 (by assumption) ?_
          case y101 => (intro w hSw; unfold TwoZ at hSw; go_simp; (try with_reducible rfl); (try omega))
          simp only [List.setIfInBounds_toArray, List.set_cons_zero, List.set_cons_succ]
          refine held_take (v := arrV p.addr) 1 rfl (by kernel_rfl) (by kernel_rfl) (by kernel_rfl) (fun _ _ _ h => h) (by rfl) (fun W hSw => exec_load_adr (.tmp 16) rfl w.heap.size p HF.out rfl hSw.1) (by assumption) ?_
          simp only [List.setIfInBounds_toArray, List.set_cons_zero, List.set_cons_succ]
          refine held_take (v := arrV a) 4 rfl (by kernel_rfl) (by kernel_rfl) (by kernel_rfl) (fun _ _ _ h => h) (by rfl) (fun W hSw => exec_load_arrT (.tmp 3) rfl (w.heap.size + 1) a (by rw [HA.out]; exact arr16P) rfl hSw.2.1) (by assumption) ?_
          simp only [List.setIfInBounds_toArray, List.set_cons_zero, List.set_cons_succ]
          refine held_one 3 rfl (by kernel_rfl) (by rfl) (fun K hK => ?_)
          go_simp
          refine (H1.out _).mono ?_
          rintro e w1 ⟨rfl, b1⟩
          refine hK.out _ _ (TwoZ.up hHeld b1) (fun hHeld => ?_)
          clear hK K
          refine held_one 6 rfl (by kernel_rfl) (by rfl) (fun K hK => ?_)
          go_simp
          refine (H2.out _).mono ?_
          rintro e w2 ⟨rfl, b2⟩
          refine hK.out _ _ (TwoZ.up hHeld b2) (fun hHeld => ?_)
          clear hK K
          refine held_take (v := ?v120) 7 rfl (by kernel_rfl) (by kernel_rfl) (by kernel_rfl) (fun _ _ _ h => h) (by rfl) ?y120 (by assumption) ?_
          case y120 => (intro w hSw; unfold TwoZ at hSw; go_simp; (try with_reducible rfl); (try omega))
          simp only [List.setIfInBounds_toArray, List.set_cons_zero, List.set_cons_succ]
          refine wpAnyH_done (by kernel_rfl) ?_ _
          refine NoPanic.normal ?_
          have HZ := Lib.hid hHeld
          clear hHeld
          go_wp2
          go_ret
          exact ⟨by rw [HE.out]; rfl, HZ.out.2.2⟩
      · have h128 : n = 128 := by omega
        have HE : Hid (b = true) := HI.out.2 (fun i hi _ => HBits.out i (by omega))
        subst h128
        go_wp2
        go_ret
        exact ⟨by rw [HE.out]; rfl, HZ.out.2.2⟩
    · have HE : Hid (b = true) := HI.out.2 (fun i hi hl => HBits.out i (by omega))
      have hge : p.len ≤ (n : Int) := by omega
      go_wp2
      go_ret
      exact ⟨by rw [HE.out]; rfl, HZ.out.2.2⟩
theorem below_drewQ {B : Nat} {w W : World} (h : Below B w W) (q : Nat) : Below B w (W.drewN q) := h.trans ⟨rfl, rfl, rfl, Nat.le_refl _, fun _ _ => rfl⟩
theorem drop_at (l : List UInt8) (k : Nat) (hk : k < l.length) : l.drop k = l.getD k 0 :: l.drop (k + 1) := by
  rw [List.drop_eq_getElem_cons hk]
  simp [List.getD, hk]
theorem cmp_lt (l m : List UInt8) (k : Nat) (hl : k < l.length) (hm : k < m.length) (h : byteAt l k < byteAt m k) : cmpB (l.drop k) (m.drop k) = -1 := by
  rw [drop_at l k hl, drop_at m k hm]
  unfold cmpB
  unfold byteAt at h
  rw [if_pos (by omega)]
theorem cmp_gt (l m : List UInt8) (k : Nat) (hl : k < l.length) (hm : k < m.length) (h : byteAt m k < byteAt l k) : cmpB (l.drop k) (m.drop k) = 1 := by
  rw [drop_at l k hl, drop_at m k hm]
  unfold cmpB
  unfold byteAt at h
  rw [if_neg (by omega), if_pos (by omega)]
theorem cmp_eq (l m : List UInt8) (k : Nat) (hl : k < l.length) (hm : k < m.length) (h : byteAt m k = byteAt l k) : cmpB (l.drop k) (m.drop k) = cmpB (l.drop (k + 1)) (m.drop (k + 1)) := by
  rw [drop_at l k hl, drop_at m k hm]
  conv => lhs; unfold cmpB
  unfold byteAt at h
  rw [if_neg (by omega), if_neg (by omega)]
theorem PairZ.drewN {w : World} {p q : Pfx} {W : World} (h : PairZ w p q W) (n : Nat) : PairZ w p q (W.drewN n) := ⟨h.1, h.2.1, below_drewQ h.2.2 n⟩
set_option maxRecDepth 100000 in
set_option maxHeartbeats 8000000 in
theorem qcompare_any (p q : Pfx) (w : World) (f : p.addr.length = 16) (g : q.addr.length = 16) :
    Calls Try.prog 40 #[p.val, q.val] w fun r w' => r = .returned (.int .i64 (cmpP p q)) ∧ Below w.heap.size w w' := by
  have Z := Lib.hid (pairZ_new w p q)
  have c1 := Z.out.1.six
  have c2 := Z.out.2.1.six
  have HF := Lib.hid f
  have HG := Lib.hid g
  rw [show p.val = .agg p.cells from rfl, show q.val = .agg q.cells from rfl]
  by_cases h6 : p.six = q.six
  · have HV := Lib.hid (cmpP_six h6)
    generalize cmpP p q = R at *
    rw [← h6] at c2
    clear f g h6
    go_enter Try.func40, Try.ntmps40
    go_wp2
    go_loopw [5] (fun i wr => ∃ n : Nat, n ≤ 16 ∧ i = .int .i64 (n : Int) ∧ cmpB p.addr q.addr = cmpB (p.addr.drop n) (q.addr.drop n) ∧ PairZ w p q wr) (fun i _ => 16 - (intOf i).toNat)
    case atStart => exact ⟨0, by omega, rfl, rfl, Z.out⟩
    case round =>
      obtain ⟨n, hn, rfl, hcmp, hz⟩ := hrel
      clear Z c1 c2
      by_cases hlt : n < 16
      · have hlt2 : (n : Int) < 16 := by omega
        have c1 := hz.1.byte n (by rw [HF.out]; exact hlt)
        have c2 := hz.2.1.byte n (by rw [HG.out]; exact hlt)
        rw [show n + 1 = 1 + n by omega] at c1 c2
        have HZ := Lib.hid hz
        have HC := Lib.hid hcmp
        have hx := UInt8.toNat_lt (p.addr.getD n 0)
        have hy := UInt8.toNat_lt (q.addr.getD n 0)
        have HL := Lib.hid (cmp_lt p.addr q.addr n (by rw [HF.out]; exact hlt) (by rw [HG.out]; exact hlt))
        have HGt := Lib.hid (cmp_gt p.addr q.addr n (by rw [HF.out]; exact hlt) (by rw [HG.out]; exact hlt))
        have HEq := Lib.hid (cmp_eq p.addr q.addr n (by rw [HF.out]; exact hlt) (by rw [HG.out]; exact hlt))
        clear hz hcmp hx hy
        generalize byteAt p.addr n = x at *
        generalize byteAt q.addr n = y at *
        rcases Int.lt_trichotomy x y with h | h | h
        · have HR : Hid (R = -1) := by
            show R = -1
            rw [HV.out, HC.out, HL.out h]
            rfl
          clear HL HGt HEq
          go_wp2_with fail
          go_quiet (fail)
          go_wp2
          go_ret
          exact ⟨by rw [HR.out]; rfl, below_drewQ HZ.out.2.2 _⟩
        · subst h
          have HE := Lib.hid (HC.out.trans (HEq.out rfl))
          clear HL HGt HEq HC
          go_wp2_with fail
          go_quiet (fail)
          go_wp2_with fail
          go_quiet (fail)
          go_wp2
          go_roundw
          case rel => exact ⟨n + 1, by omega, by go_num, HE.out, HZ.out.drewN _⟩
          case measure => simp [intOf]; omega
        · have HR : Hid (R = 1) := by
            show R = 1
            rw [HV.out, HC.out, HGt.out h]
            rfl
          clear HL HGt HEq
          go_wp2_with fail
          go_quiet (fail)
          go_wp2_with fail
          go_quiet (fail)
          go_wp2
          go_ret
          exact ⟨by rw [HR.out]; rfl, below_drewQ (below_drewQ HZ.out.2.2 _) _⟩
      · have h16 : n = 16 := by omega
        subst h16
        have c3 := hz.1.len HF.out
        have c4 := hz.2.1.len HG.out
        have HZ := Lib.hid hz
        rw [List.drop_of_length_le (by rw [HF.out]; omega), List.drop_of_length_le (by rw [HG.out]; omega)] at hcmp
        have hR := HV.out
        rw [hcmp] at hR
        have HR : Hid (R = cmpI p.len q.len) := hR
        clear hR HV hcmp hz
        generalize p.len = pl at *
        generalize q.len = ql at *
        rcases Int.lt_trichotomy pl ql with h | h | h
        · have HI : Hid (cmpI pl ql = -1) := by
            show cmpI pl ql = -1
            unfold cmpI
            rw [if_pos h]
          go_wp2
          go_ret
          exact ⟨by rw [HR.out, HI.out]; rfl, HZ.out.2.2⟩
        · have HI : Hid (cmpI pl ql = 0) := by
            show cmpI pl ql = 0
            unfold cmpI
            rw [if_neg (by omega), if_neg (by omega)]
          subst h
          go_wp2
          go_ret
          exact ⟨by rw [HR.out, HI.out]; rfl, HZ.out.2.2⟩
        · have HI : Hid (cmpI pl ql = 1) := by
            show cmpI pl ql = 1
            unfold cmpI
            rw [if_neg (by omega), if_pos h]
          go_wp2
          go_ret
          exact ⟨by rw [HR.out, HI.out]; rfl, HZ.out.2.2⟩
  · rw [cmpP_kind h6]
    clear f g
    generalize p.six = s at *
    generalize q.six = u at *
    go_enter Try.func40, Try.ntmps40
    cases s <;> cases u
    · exact absurd rfl h6
    · go_wp2
      go_ret
      exact ⟨rfl, Z.out.2.2⟩
    · go_wp2
      go_ret
      exact ⟨rfl, Z.out.2.2⟩
    · exact absurd rfl h6
end Go.Proofs.Ytecefdocemkliaa

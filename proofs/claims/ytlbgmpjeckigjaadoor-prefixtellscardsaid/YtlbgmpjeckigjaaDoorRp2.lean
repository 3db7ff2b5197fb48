/- The document's prefixes: Has, Covers, Common, Compare. -/
import Derived.Test.YtlbgmpjeckigjaaDoorRp1
import Derived.BigQuiet
namespace Go.Proofs.YtlbgmpjeckigjaaDoor
open Go Go.RowKit

set_option maxRecDepth 100000 in
set_option maxHeartbeats 8000000 in
theorem qhas_any (p : Pfx) (a : List UInt8) (w : World) (f : p.addr.length = 16) (ha : a.length = 16) :
    Calls Tryd.prog 17 #[p.val, arrV a] w fun r w' => r = .returned (.bool (hasP p a)) ∧ Below w.heap.size w w' := by
  have Z := Lib.hid (twoZ_new w p a)
  have HI := Lib.hid (has_iff p a)
  have HF := Lib.hid f
  have HA := Lib.hid ha
  have HB1 := Lib.hid (fun n W => qbit_any p.addr n W f)
  have HB2 := Lib.hid (fun n W => qbit_any a n W ha)
  rw [show p.val = .agg p.cells from rfl, show arrV a = .agg (byteVals a).toArray from rfl]
  clear f ha
  generalize hb : hasP p a = b at *
  have HV := Lib.hid hb
  clear hb
  go_enter Tryd.func17, Tryd.ntmps17
  go_wp2
  go_loopw [5] (fun i wr => ∃ n : Nat, n ≤ 128 ∧ i = .int .i64 (n : Int) ∧ (∀ j : Nat, j < n → bitL p.addr j = bitL a j) ∧ TwoZ w p a wr) (fun i _ => 128 - (intOf i).toNat)
  case atStart => exact ⟨0, by omega, rfl, fun j h => by omega, Z.out⟩
  case round =>
    obtain ⟨n, hn, rfl, hbits, hz⟩ := hrel
    clear Z
    have c1 := hz.1.len HF.out
    have HZ := Lib.hid hz
    have HBits := Lib.hid hbits
    clear hz hbits
    by_cases hlt : (n : Int) < p.len
    · by_cases hlt2 : n < 128
      · have hlt3 : (n : Int) < 128 := by omega
        have H1 := Lib.hid (fun W => HB1.out (n : Int) W)
        have H2 := Lib.hid (fun W => HB2.out (n : Int) W)
        by_cases hxy : bitI p.addr (n : Int) = bitI a (n : Int)
        · have HE := Lib.hid ((bitI_eq _ _ n hlt2).1 hxy)
          rw [hxy] at H1
          clear hxy
          generalize bitI a (n : Int) = x at *
          go_wp2_with fail
          refine wp_region_noPanic ?_
          refine wp_region_held_drew (S := TwoZ w p a) (by kernel_rfl) HZ.out.drew (fun hHeld => ?_)
          clear HZ c1
          refine held_take (v := ?v46) 0 rfl (by kernel_rfl) (by kernel_rfl) (by kernel_rfl) (fun _ _ _ h => h) (by rfl) ?y46 (by assumption) ?_
          case y46 => (intro w hSw; unfold TwoZ at hSw; go_simp; (try with_reducible rfl); (try omega))
          simp only [List.setIfInBounds_toArray, List.set_cons_zero, List.set_cons_succ]
          refine held_take (v := ?v49) 2 rfl (by kernel_rfl) (by kernel_rfl) (by kernel_rfl) (fun _ _ _ h => h) (by rfl) ?y49 (by assumption) ?_
          case y49 => (intro w hSw; unfold TwoZ at hSw; go_simp; (try with_reducible rfl); (try omega))
          simp only [List.setIfInBounds_toArray, List.set_cons_zero, List.set_cons_succ]
          refine held_take (v := ?v52) 5 rfl (by kernel_rfl) (by kernel_rfl) (by kernel_rfl) (fun _ _ _ h => h) (by rfl) ?y52 (by assumption) ?_
          case y52 => (intro w hSw; unfold TwoZ at hSw; go_simp; (try with_reducible rfl); (try omega))
          simp only [List.setIfInBounds_toArray, List.set_cons_zero, List.set_cons_succ]
          refine held_take (v := arrV p.addr) 1 rfl (by kernel_rfl) (by kernel_rfl) (by kernel_rfl) (fun _ _ _ h => h) (by rfl) (fun W hSw => exec_load_adr (.tmp 16) rfl w.heap.size p HF.out rfl hSw.1) (by assumption) ?_
          simp only [List.setIfInBounds_toArray, List.set_cons_zero, List.set_cons_succ]
          refine held_take (v := arrV a) 4 rfl (by kernel_rfl) (by kernel_rfl) (by kernel_rfl) (fun _ _ _ h => h) (by rfl) (fun W hSw => exec_load_arrT (.tmp 3) rfl (w.heap.size + 1) a (by rw [HA.out]; exact arr16P) rfl hSw.2.1) (by assumption) ?_
          simp only [List.setIfInBounds_toArray, List.set_cons_zero, List.set_cons_succ]
          refine held_one 3 rfl (by kernel_rfl) (by rfl) (fun K hK => ?_)
          go_simp
          refine (H1.out _).mono ?_
          rintro e w1 ⟨rfl, b1⟩
          refine hK.out _ _ (TwoZ.up hHeld b1) (fun hHeld => ?_)
          clear hK K
          refine held_one 6 rfl (by kernel_rfl) (by rfl) (fun K hK => ?_)
          go_simp
          refine (H2.out _).mono ?_
          rintro e w2 ⟨rfl, b2⟩
          refine hK.out _ _ (TwoZ.up hHeld b2) (fun hHeld => ?_)
          clear hK K
          refine held_take (v := ?v71) 7 rfl (by kernel_rfl) (by kernel_rfl) (by kernel_rfl) (fun _ _ _ h => h) (by rfl) ?y71 (by assumption) ?_
          case y71 => (intro w hSw; unfold TwoZ at hSw; go_simp; (try with_reducible rfl); (try omega))
          simp only [List.setIfInBounds_toArray, List.set_cons_zero, List.set_cons_succ]
          refine wpAnyH_done (by kernel_rfl) ?_ _
          refine NoPanic.normal ?_
          have HZ := Lib.hid hHeld
          clear hHeld
          go_wp2
          go_roundw
          case rel => exact ⟨n + 1, by omega, by go_num, fun j hj => by
            by_cases hjn : j = n
            · subst hjn; exact HE.out
            · exact HBits.out j (by omega), HZ.out⟩
          case measure => simp [intOf]; omega
        · have HE : Hid (b = false) := by
            cases b
            · exact rfl
            · exact absurd ((bitI_eq _ _ n hlt2).2 (HI.out.1 rfl n hlt2 hlt)) hxy
          generalize bitI p.addr (n : Int) = y at *
          generalize bitI a (n : Int) = x at *
          go_wp2_with fail
          refine wp_region_noPanic ?_
          refine wp_region_held_drew (S := TwoZ w p a) (by kernel_rfl) HZ.out.drew (fun hHeld => ?_)
          clear HZ c1
          refine held_take (v := ?v95) 0 rfl (by kernel_rfl) (by kernel_rfl) (by kernel_rfl) (fun _ _ _ h => h) (by rfl) ?y95 (by assumption) ?_
          case y95 => (intro w hSw; unfold TwoZ at hSw; go_simp; (try with_reducible rfl); (try omega))
          simp only [List.setIfInBounds_toArray, List.set_cons_zero, List.set_cons_succ]
          refine held_take (v := ?v98) 2 rfl (by kernel_rfl) (by kernel_rfl) (by kernel_rfl) (fun _ _ _ h => h) (by rfl) ?y98 (by assumption) ?_
          case y98 => (intro w hSw; unfold TwoZ at hSw; go_simp; (try with_reducible rfl); (try omega))
          simp only [List.setIfInBounds_toArray, List.set_cons_zero, List.set_cons_succ]
          refine held_take (v := ?v101) 5 rfl (by kernel_rfl) (by kernel_rfl) (by kernel_rfl) (fun _ _ _ h => h) (by rfl) ?y101 (by assumption) ?_
          case y101 => (intro w hSw; unfold TwoZ at hSw; go_simp; (try with_reducible rfl); (try omega))
          simp only [List.setIfInBounds_toArray, List.set_cons_zero, List.set_cons_succ]
          refine held_take (v := arrV p.addr) 1 rfl (by kernel_rfl) (by kernel_rfl) (by kernel_rfl) (fun _ _ _ h => h) (by rfl) (fun W hSw => exec_load_adr (.tmp 16) rfl w.heap.size p HF.out rfl hSw.1) (by assumption) ?_
          simp only [List.setIfInBounds_toArray, List.set_cons_zero, List.set_cons_succ]
          refine held_take (v := arrV a) 4 rfl (by kernel_rfl) (by kernel_rfl) (by kernel_rfl) (fun _ _ _ h => h) (by rfl) (fun W hSw => exec_load_arrT (.tmp 3) rfl (w.heap.size + 1) a (by rw [HA.out]; exact arr16P) rfl hSw.2.1) (by assumption) ?_
          simp only [List.setIfInBounds_toArray, List.set_cons_zero, List.set_cons_succ]
          refine held_one 3 rfl (by kernel_rfl) (by rfl) (fun K hK => ?_)
          go_simp
          refine (H1.out _).mono ?_
          rintro e w1 ⟨rfl, b1⟩
          refine hK.out _ _ (TwoZ.up hHeld b1) (fun hHeld => ?_)
          clear hK K
          refine held_one 6 rfl (by kernel_rfl) (by rfl) (fun K hK => ?_)
          go_simp
          refine (H2.out _).mono ?_
          rintro e w2 ⟨rfl, b2⟩
          refine hK.out _ _ (TwoZ.up hHeld b2) (fun hHeld => ?_)
          clear hK K
          refine held_take (v := ?v120) 7 rfl (by kernel_rfl) (by kernel_rfl) (by kernel_rfl) (fun _ _ _ h => h) (by rfl) ?y120 (by assumption) ?_
          case y120 => (intro w hSw; unfold TwoZ at hSw; go_simp; (try with_reducible rfl); (try omega))
          simp only [List.setIfInBounds_toArray, List.set_cons_zero, List.set_cons_succ]
          refine wpAnyH_done (by kernel_rfl) ?_ _
          refine NoPanic.normal ?_
          have HZ := Lib.hid hHeld
          clear hHeld
          go_wp2
          go_ret
          exact ⟨by rw [HE.out]; rfl, HZ.out.2.2⟩
      · have h128 : n = 128 := by omega
        have HE : Hid (b = true) := HI.out.2 (fun i hi _ => HBits.out i (by omega))
        subst h128
        go_wp2
        go_ret
        exact ⟨by rw [HE.out]; rfl, HZ.out.2.2⟩
    · have HE : Hid (b = true) := HI.out.2 (fun i hi hl => HBits.out i (by omega))
      have hge : p.len ≤ (n : Int) := by omega
      go_wp2
      go_ret
      exact ⟨by rw [HE.out]; rfl, HZ.out.2.2⟩
set_option maxRecDepth 100000 in
set_option maxHeartbeats 4000000 in
theorem qcovers_any (p q : Pfx) (w : World) (f : p.addr.length = 16) (g : q.addr.length = 16) :
    Calls Tryd.prog 23 #[p.val, q.val] w fun r w' => r = .returned (.bool (covP p q)) ∧ Below w.heap.size w w' := by
  have HH := Lib.hid (fun W => qhas_any p q.addr W f g)
  have Z := Lib.hid (pairZ_new w p q)
  have HF := Lib.hid f
  have HG := Lib.hid g
  rw [show p.val = .agg p.cells from rfl, show q.val = .agg q.cells from rfl]
  have hcov : covP p q = ((p.six == q.six) && decide (p.len ≤ q.len) && hasP p q.addr) := rfl
  rw [hcov]
  clear f g hcov
  generalize hasP p q.addr = b at *
  obtain ⟨s, hs⟩ : ∃ s, p.six = s := ⟨_, rfl⟩
  obtain ⟨u, hu⟩ : ∃ u, q.six = u := ⟨_, rfl⟩
  obtain ⟨m, hm⟩ : ∃ m, p.len = m := ⟨_, rfl⟩
  obtain ⟨n, hn⟩ : ∃ n, q.len = n := ⟨_, rfl⟩
  rw [hs, hu, hm, hn]
  have HS := Lib.hid (And.intro hs (And.intro hu (And.intro hm hn)))
  clear hs hu hm hn
  go_enter Tryd.func23, Tryd.ntmps23
  go_wp2_with (first | (refine wpList_load_pfx rfl (.tmp 2) rfl w.heap.size p HF.out rfl Z.out.1 ?_) | (refine wpList_load_arrR rfl (.tmp 7) rfl (w.heap.size + 1) 1 q.addr HG.out rfl Z.out.2.1.range ?_) | (go_at_call 17; refine (HH.out _).mono ?_; rintro e w1 ⟨rfl, b1⟩; refine Hid.out ?_))
  refine Lib.hid ?_
  have Z1 := Lib.hid (Z.out.up b1)
  have c1 := Z1.out.1.six
  have c2 := Z1.out.2.1.six
  have c3 := Z1.out.1.len HF.out
  have c4 := Z1.out.2.1.len HG.out
  clear Z b1 HH
  rw [HS.out.1] at c1
  rw [HS.out.2.1] at c2
  rw [HS.out.2.2.1] at c3
  rw [HS.out.2.2.2] at c4
  by_cases hle : m ≤ n
  · have HLE := Lib.hid (decide_eq_true hle)
    cases s <;> cases u <;> (go_wp2; go_ret; exact ⟨by first | rfl | (rw [HLE.out]; rfl), Z1.out.2.2⟩)
  · have HLE := Lib.hid (decide_eq_false hle)
    cases s <;> cases u <;> (go_wp2; go_ret; exact ⟨by first | rfl | (rw [HLE.out]; rfl), Z1.out.2.2⟩)
set_option maxRecDepth 100000 in
set_option maxHeartbeats 8000000 in
theorem qcommon_any (p q : Pfx) (w : World) (f : p.addr.length = 16) (g : q.addr.length = 16) :
    Calls Tryd.prog 21 #[p.val, q.val] w fun r w' => r = .returned (.tuple #[(comV p q).val, .bool (p.six == q.six)]) ∧ Below w.heap.size w w' := by
  have Z := Lib.hid (commZ_new w p q)
  rw [← zeroP_cells] at Z
  have c1 := Z.out.1.1.six
  have c2 := Z.out.1.2.1.six
  have HF := Lib.hid f
  have HG := Lib.hid g
  rw [show p.val = .agg p.cells from rfl, show q.val = .agg q.cells from rfl]
  by_cases h6 : p.six = q.six
  · have e : comV p q = ofP p.six p.addr (comP p q) := by unfold comV; rw [if_pos h6]
    rw [e, beq_iff_eq.2 h6]
    have HO := Lib.hid (fun n W => qof_any p.six p.addr n W f)
    have HB1 := Lib.hid (fun n W => qbit_any p.addr n W f)
    have HB2 := Lib.hid (fun n W => qbit_any q.addr n W g)
    have HC := Lib.hid (show comP p q = comF p q (128 - 0) 0 from rfl)
    have HST := Lib.hid (com_step p q)
    have HSP := Lib.hid (com_stop p q)
    rw [← h6] at c2
    clear e f g h6
    generalize hcc : comP p q = cc at *
    go_enter Tryd.func21, Tryd.ntmps21
    go_wp2
    go_loopw [6] (fun i wr => ∃ n : Nat, n ≤ 128 ∧ i = .int .i64 (n : Int) ∧ cc = comF p q (128 - n) n ∧ CommZ w p q wr) (fun i _ => 128 - (intOf i).toNat)
    case atStart => exact ⟨0, by omega, rfl, HC.out, Z.out⟩
    case round =>
      obtain ⟨n, hn, rfl, hcom, hz⟩ := hrel
      clear Z c1 c2
      have H1 := Lib.hid (fun W => HB1.out (n : Int) W)
      have H2 := Lib.hid (fun W => HB2.out (n : Int) W)
      by_cases h1 : (n : Int) < p.len
      · by_cases h2 : (n : Int) < q.len
        · by_cases h3 : n < 128
          · by_cases hxy : bitI p.addr (n : Int) = bitI q.addr (n : Int)
            · rw [HST.out n h3 h1 h2 hxy] at hcom
              have HCN := Lib.hid hcom
              rw [hxy] at H1
              clear hcom hxy
              generalize bitI q.addr (n : Int) = x at *
              go_wp2_with fail
              refine wp_region_noPanic ?_
              refine wp_region_held_drew (S := CommZ w p q) (by kernel_rfl) hz.drew (fun hHeld => ?_)
              clear hz
              refine held_take (v := ?v224) 0 rfl (by kernel_rfl) (by kernel_rfl) (by kernel_rfl) (fun _ _ _ h => h) (by rfl) ?y224 (by assumption) ?_
              case y224 => (intro w hSw; unfold CommZ at hSw; go_simp; (try with_reducible rfl); (try omega))
              simp only [List.setIfInBounds_toArray, List.set_cons_zero, List.set_cons_succ]
              refine held_take (v := ?v227) 1 rfl (by kernel_rfl) (by kernel_rfl) (by kernel_rfl) (fun _ _ _ h => h) (by rfl) ?y227 (by assumption) ?_
              case y227 => (intro w hSw; unfold CommZ at hSw; go_simp; (try with_reducible rfl); (try omega))
              simp only [List.setIfInBounds_toArray, List.set_cons_zero, List.set_cons_succ]
              refine held_take (v := .int .i64 p.len) 2 rfl (by kernel_rfl) (by kernel_rfl) (by kernel_rfl) (fun _ _ _ h => h) (by rfl) (fun W hSw => exec_load_len (.tmp 14) rfl w.heap.size p HF.out rfl hSw.1.1) (by assumption) ?_
              simp only [List.setIfInBounds_toArray, List.set_cons_zero, List.set_cons_succ]
              refine held_take (v := ?v232) 3 rfl (by kernel_rfl) (by kernel_rfl) (by kernel_rfl) (fun _ _ _ h => h) (by rfl) ?y232 (by assumption) ?_
              case y232 => (intro w hSw; unfold CommZ at hSw; go_simp; (try with_reducible rfl); (try omega))
              simp only [List.setIfInBounds_toArray, List.set_cons_zero, List.set_cons_succ]
              (try rw [decide_eq_true (show (n : Int) < p.len by omega)])
              refine held_take (v := ?v236) 4 rfl (by kernel_rfl) (by kernel_rfl) (by kernel_rfl) (fun _ _ _ h => h) (by rfl) ?y236 (by assumption) ?_
              case y236 => (intro w hSw; unfold CommZ at hSw; go_simp; (try with_reducible rfl); (try omega))
              simp only [List.setIfInBounds_toArray, List.set_cons_zero, List.set_cons_succ]
              refine held_take (v := ?v239) 5 rfl (by kernel_rfl) (by kernel_rfl) (by kernel_rfl) (fun _ _ _ h => h) (by rfl) ?y239 (by assumption) ?_
              case y239 => (intro w hSw; unfold CommZ at hSw; go_simp; (try with_reducible rfl); (try omega))
              simp only [List.setIfInBounds_toArray, List.set_cons_zero, List.set_cons_succ]
              refine held_take (v := ?v242) 6 rfl (by kernel_rfl) (by kernel_rfl) (by kernel_rfl) (fun _ _ _ h => h) (by rfl) ?y242 (by assumption) ?_
              case y242 => (intro w hSw; unfold CommZ at hSw; go_simp; (try with_reducible rfl); (try omega))
              simp only [List.setIfInBounds_toArray, List.set_cons_zero, List.set_cons_succ]
              refine held_take (v := .int .i64 q.len) 7 rfl (by kernel_rfl) (by kernel_rfl) (by kernel_rfl) (fun _ _ _ h => h) (by rfl) (fun W hSw => exec_load_len (.tmp 19) rfl (w.heap.size + 1) q HG.out rfl hSw.1.2.1) (by assumption) ?_
              simp only [List.setIfInBounds_toArray, List.set_cons_zero, List.set_cons_succ]
              refine held_take (v := ?v247) 8 rfl (by kernel_rfl) (by kernel_rfl) (by kernel_rfl) (fun _ _ _ h => h) (by rfl) ?y247 (by assumption) ?_
              case y247 => (intro w hSw; unfold CommZ at hSw; go_simp; (try with_reducible rfl); (try omega))
              simp only [List.setIfInBounds_toArray, List.set_cons_zero, List.set_cons_succ]
              (try rw [decide_eq_true (show (n : Int) < q.len by omega)])
              refine held_take (v := ?v251) 9 rfl (by kernel_rfl) (by kernel_rfl) (by kernel_rfl) (fun _ _ _ h => h) (by rfl) ?y251 (by assumption) ?_
              case y251 => (intro w hSw; unfold CommZ at hSw; go_simp; (try with_reducible rfl); (try omega))
              simp only [List.setIfInBounds_toArray, List.set_cons_zero, List.set_cons_succ]
              refine held_take (v := ?v254) 10 rfl (by kernel_rfl) (by kernel_rfl) (by kernel_rfl) (fun _ _ _ h => h) (by rfl) ?y254 (by assumption) ?_
              case y254 => (intro w hSw; unfold CommZ at hSw; go_simp; (try with_reducible rfl); (try omega))
              simp only [List.setIfInBounds_toArray, List.set_cons_zero, List.set_cons_succ]
              refine held_take (v := ?v257) 11 rfl (by kernel_rfl) (by kernel_rfl) (by kernel_rfl) (fun _ _ _ h => h) (by rfl) ?y257 (by assumption) ?_
              case y257 => (intro w hSw; unfold CommZ at hSw; go_simp; (try with_reducible rfl); (try omega))
              simp only [List.setIfInBounds_toArray, List.set_cons_zero, List.set_cons_succ]
              refine held_take (v := ?v260) 12 rfl (by kernel_rfl) (by kernel_rfl) (by kernel_rfl) (fun _ _ _ h => h) (by rfl) ?y260 (by assumption) ?_
              case y260 => (intro w hSw; unfold CommZ at hSw; go_simp; (try with_reducible rfl); (try omega))
              simp only [List.setIfInBounds_toArray, List.set_cons_zero, List.set_cons_succ]
              (try rw [decide_eq_true (show (n : Int) < 128 by omega)])
              refine held_take (v := ?v264) 13 rfl (by kernel_rfl) (by kernel_rfl) (by kernel_rfl) (fun _ _ _ h => h) (by rfl) ?y264 (by assumption) ?_
              case y264 => (intro w hSw; unfold CommZ at hSw; go_simp; (try with_reducible rfl); (try omega))
              simp only [List.setIfInBounds_toArray, List.set_cons_zero, List.set_cons_succ]
              refine held_take (v := ?v267) 14 rfl (by kernel_rfl) (by kernel_rfl) (by kernel_rfl) (fun _ _ _ h => h) (by rfl) ?y267 (by assumption) ?_
              case y267 => (intro w hSw; unfold CommZ at hSw; go_simp; (try with_reducible rfl); (try omega))
              simp only [List.setIfInBounds_toArray, List.set_cons_zero, List.set_cons_succ]
              refine held_take (v := ?v270) 15 rfl (by kernel_rfl) (by kernel_rfl) (by kernel_rfl) (fun _ _ _ h => h) (by rfl) ?y270 (by assumption) ?_
              case y270 => (intro w hSw; unfold CommZ at hSw; go_simp; (try with_reducible rfl); (try omega))
              simp only [List.setIfInBounds_toArray, List.set_cons_zero, List.set_cons_succ]
              refine held_take (v := ?v273) 17 rfl (by kernel_rfl) (by kernel_rfl) (by kernel_rfl) (fun _ _ _ h => h) (by rfl) ?y273 (by assumption) ?_
              case y273 => (intro w hSw; unfold CommZ at hSw; go_simp; (try with_reducible rfl); (try omega))
              simp only [List.setIfInBounds_toArray, List.set_cons_zero, List.set_cons_succ]
              refine held_take (v := ?v276) 19 rfl (by kernel_rfl) (by kernel_rfl) (by kernel_rfl) (fun _ _ _ h => h) (by rfl) ?y276 (by assumption) ?_
              case y276 => (intro w hSw; unfold CommZ at hSw; go_simp; (try with_reducible rfl); (try omega))
              simp only [List.setIfInBounds_toArray, List.set_cons_zero, List.set_cons_succ]
              refine held_take (v := ?v279) 21 rfl (by kernel_rfl) (by kernel_rfl) (by kernel_rfl) (fun _ _ _ h => h) (by rfl) ?y279 (by assumption) ?_
              case y279 => (intro w hSw; unfold CommZ at hSw; go_simp; (try with_reducible rfl); (try omega))
              simp only [List.setIfInBounds_toArray, List.set_cons_zero, List.set_cons_succ]
              refine held_take (v := arrV p.addr) 16 rfl (by kernel_rfl) (by kernel_rfl) (by kernel_rfl) (fun _ _ _ h => h) (by rfl) (fun W hSw => exec_load_adr (.tmp 28) rfl w.heap.size p HF.out rfl hSw.1.1) (by assumption) ?_
              simp only [List.setIfInBounds_toArray, List.set_cons_zero, List.set_cons_succ]
              refine held_take (v := arrV q.addr) 20 rfl (by kernel_rfl) (by kernel_rfl) (by kernel_rfl) (fun _ _ _ h => h) (by rfl) (fun W hSw => exec_load_adr (.tmp 32) rfl (w.heap.size + 1) q HG.out rfl hSw.1.2.1) (by assumption) ?_
              simp only [List.setIfInBounds_toArray, List.set_cons_zero, List.set_cons_succ]
              refine held_one 18 rfl (by kernel_rfl) (by rfl) (fun K hK => ?_)
              go_simp
              refine (H1.out _).mono ?_
              rintro e w1 ⟨rfl, b1⟩
              refine hK.out _ _ (CommZ.up hHeld b1) (fun hHeld => ?_)
              clear hK K
              refine held_one 22 rfl (by kernel_rfl) (by rfl) (fun K hK => ?_)
              go_simp
              refine (H2.out _).mono ?_
              rintro e w2 ⟨rfl, b2⟩
              refine hK.out _ _ (CommZ.up hHeld b2) (fun hHeld => ?_)
              clear hK K
              refine held_take (v := ?v298) 23 rfl (by kernel_rfl) (by kernel_rfl) (by kernel_rfl) (fun _ _ _ h => h) (by rfl) ?y298 (by assumption) ?_
              case y298 => (intro w hSw; unfold CommZ at hSw; go_simp; (try with_reducible rfl); (try omega))
              simp only [List.setIfInBounds_toArray, List.set_cons_zero, List.set_cons_succ]
              refine held_take (v := ?v301) 24 rfl (by kernel_rfl) (by kernel_rfl) (by kernel_rfl) (fun _ _ _ h => h) (by rfl) ?y301 (by assumption) ?_
              case y301 => (intro w hSw; unfold CommZ at hSw; go_simp; (try with_reducible rfl); (try omega))
              simp only [List.setIfInBounds_toArray, List.set_cons_zero, List.set_cons_succ]
              refine wpAnyH_done (by kernel_rfl) ?_ _
              refine NoPanic.normal ?_
              have HZ := Lib.hid hHeld
              clear hHeld
              go_wp2
              go_roundw
              case rel => exact ⟨n + 1, by omega, by go_num, HCN.out, HZ.out⟩
              case measure => simp [intOf]; omega
            · rw [HSP.out n (fun h => hxy h.2.2.2)] at hcom
              have HCN := Lib.hid hcom
              clear hcom
              generalize bitI p.addr (n : Int) = y at *
              generalize bitI q.addr (n : Int) = x at *
              go_wp2_with fail
              refine wp_region_noPanic ?_
              refine wp_region_held_drew (S := CommZ w p q) (by kernel_rfl) hz.drew (fun hHeld => ?_)
              clear hz
              refine held_take (v := ?v321) 0 rfl (by kernel_rfl) (by kernel_rfl) (by kernel_rfl) (fun _ _ _ h => h) (by rfl) ?y321 (by assumption) ?_
              case y321 => (intro w hSw; unfold CommZ at hSw; go_simp; (try with_reducible rfl); (try omega))
              simp only [List.setIfInBounds_toArray, List.set_cons_zero, List.set_cons_succ]
              refine held_take (v := ?v324) 1 rfl (by kernel_rfl) (by kernel_rfl) (by kernel_rfl) (fun _ _ _ h => h) (by rfl) ?y324 (by assumption) ?_
              case y324 => (intro w hSw; unfold CommZ at hSw; go_simp; (try with_reducible rfl); (try omega))
              simp only [List.setIfInBounds_toArray, List.set_cons_zero, List.set_cons_succ]
              refine held_take (v := .int .i64 p.len) 2 rfl (by kernel_rfl) (by kernel_rfl) (by kernel_rfl) (fun _ _ _ h => h) (by rfl) (fun W hSw => exec_load_len (.tmp 14) rfl w.heap.size p HF.out rfl hSw.1.1) (by assumption) ?_
              simp only [List.setIfInBounds_toArray, List.set_cons_zero, List.set_cons_succ]
              refine held_take (v := ?v329) 3 rfl (by kernel_rfl) (by kernel_rfl) (by kernel_rfl) (fun _ _ _ h => h) (by rfl) ?y329 (by assumption) ?_
              case y329 => (intro w hSw; unfold CommZ at hSw; go_simp; (try with_reducible rfl); (try omega))
              simp only [List.setIfInBounds_toArray, List.set_cons_zero, List.set_cons_succ]
              (try rw [decide_eq_true (show (n : Int) < p.len by omega)])
              refine held_take (v := ?v333) 4 rfl (by kernel_rfl) (by kernel_rfl) (by kernel_rfl) (fun _ _ _ h => h) (by rfl) ?y333 (by assumption) ?_
              case y333 => (intro w hSw; unfold CommZ at hSw; go_simp; (try with_reducible rfl); (try omega))
              simp only [List.setIfInBounds_toArray, List.set_cons_zero, List.set_cons_succ]
              refine held_take (v := ?v336) 5 rfl (by kernel_rfl) (by kernel_rfl) (by kernel_rfl) (fun _ _ _ h => h) (by rfl) ?y336 (by assumption) ?_
              case y336 => (intro w hSw; unfold CommZ at hSw; go_simp; (try with_reducible rfl); (try omega))
              simp only [List.setIfInBounds_toArray, List.set_cons_zero, List.set_cons_succ]
              refine held_take (v := ?v339) 6 rfl (by kernel_rfl) (by kernel_rfl) (by kernel_rfl) (fun _ _ _ h => h) (by rfl) ?y339 (by assumption) ?_
              case y339 => (intro w hSw; unfold CommZ at hSw; go_simp; (try with_reducible rfl); (try omega))
              simp only [List.setIfInBounds_toArray, List.set_cons_zero, List.set_cons_succ]
              refine held_take (v := .int .i64 q.len) 7 rfl (by kernel_rfl) (by kernel_rfl) (by kernel_rfl) (fun _ _ _ h => h) (by rfl) (fun W hSw => exec_load_len (.tmp 19) rfl (w.heap.size + 1) q HG.out rfl hSw.1.2.1) (by assumption) ?_
              simp only [List.setIfInBounds_toArray, List.set_cons_zero, List.set_cons_succ]
              refine held_take (v := ?v344) 8 rfl (by kernel_rfl) (by kernel_rfl) (by kernel_rfl) (fun _ _ _ h => h) (by rfl) ?y344 (by assumption) ?_
              case y344 => (intro w hSw; unfold CommZ at hSw; go_simp; (try with_reducible rfl); (try omega))
              simp only [List.setIfInBounds_toArray, List.set_cons_zero, List.set_cons_succ]
              (try rw [decide_eq_true (show (n : Int) < q.len by omega)])
              refine held_take (v := ?v348) 9 rfl (by kernel_rfl) (by kernel_rfl) (by kernel_rfl) (fun _ _ _ h => h) (by rfl) ?y348 (by assumption) ?_
              case y348 => (intro w hSw; unfold CommZ at hSw; go_simp; (try with_reducible rfl); (try omega))
              simp only [List.setIfInBounds_toArray, List.set_cons_zero, List.set_cons_succ]
              refine held_take (v := ?v351) 10 rfl (by kernel_rfl) (by kernel_rfl) (by kernel_rfl) (fun _ _ _ h => h) (by rfl) ?y351 (by assumption) ?_
              case y351 => (intro w hSw; unfold CommZ at hSw; go_simp; (try with_reducible rfl); (try omega))
              simp only [List.setIfInBounds_toArray, List.set_cons_zero, List.set_cons_succ]
              refine held_take (v := ?v354) 11 rfl (by kernel_rfl) (by kernel_rfl) (by kernel_rfl) (fun _ _ _ h => h) (by rfl) ?y354 (by assumption) ?_
              case y354 => (intro w hSw; unfold CommZ at hSw; go_simp; (try with_reducible rfl); (try omega))
              simp only [List.setIfInBounds_toArray, List.set_cons_zero, List.set_cons_succ]
              refine held_take (v := ?v357) 12 rfl (by kernel_rfl) (by kernel_rfl) (by kernel_rfl) (fun _ _ _ h => h) (by rfl) ?y357 (by assumption) ?_
              case y357 => (intro w hSw; unfold CommZ at hSw; go_simp; (try with_reducible rfl); (try omega))
              simp only [List.setIfInBounds_toArray, List.set_cons_zero, List.set_cons_succ]
              (try rw [decide_eq_true (show (n : Int) < 128 by omega)])
              refine held_take (v := ?v361) 13 rfl (by kernel_rfl) (by kernel_rfl) (by kernel_rfl) (fun _ _ _ h => h) (by rfl) ?y361 (by assumption) ?_
              case y361 => (intro w hSw; unfold CommZ at hSw; go_simp; (try with_reducible rfl); (try omega))
              simp only [List.setIfInBounds_toArray, List.set_cons_zero, List.set_cons_succ]
              refine held_take (v := ?v364) 14 rfl (by kernel_rfl) (by kernel_rfl) (by kernel_rfl) (fun _ _ _ h => h) (by rfl) ?y364 (by assumption) ?_
              case y364 => (intro w hSw; unfold CommZ at hSw; go_simp; (try with_reducible rfl); (try omega))
              simp only [List.setIfInBounds_toArray, List.set_cons_zero, List.set_cons_succ]
              refine held_take (v := ?v367) 15 rfl (by kernel_rfl) (by kernel_rfl) (by kernel_rfl) (fun _ _ _ h => h) (by rfl) ?y367 (by assumption) ?_
              case y367 => (intro w hSw; unfold CommZ at hSw; go_simp; (try with_reducible rfl); (try omega))
              simp only [List.setIfInBounds_toArray, List.set_cons_zero, List.set_cons_succ]
              refine held_take (v := ?v370) 17 rfl (by kernel_rfl) (by kernel_rfl) (by kernel_rfl) (fun _ _ _ h => h) (by rfl) ?y370 (by assumption) ?_
              case y370 => (intro w hSw; unfold CommZ at hSw; go_simp; (try with_reducible rfl); (try omega))
              simp only [List.setIfInBounds_toArray, List.set_cons_zero, List.set_cons_succ]
              refine held_take (v := ?v373) 19 rfl (by kernel_rfl) (by kernel_rfl) (by kernel_rfl) (fun _ _ _ h => h) (by rfl) ?y373 (by assumption) ?_
              case y373 => (intro w hSw; unfold CommZ at hSw; go_simp; (try with_reducible rfl); (try omega))
              simp only [List.setIfInBounds_toArray, List.set_cons_zero, List.set_cons_succ]
              refine held_take (v := ?v376) 21 rfl (by kernel_rfl) (by kernel_rfl) (by kernel_rfl) (fun _ _ _ h => h) (by rfl) ?y376 (by assumption) ?_
              case y376 => (intro w hSw; unfold CommZ at hSw; go_simp; (try with_reducible rfl); (try omega))
              simp only [List.setIfInBounds_toArray, List.set_cons_zero, List.set_cons_succ]
              refine held_take (v := arrV p.addr) 16 rfl (by kernel_rfl) (by kernel_rfl) (by kernel_rfl) (fun _ _ _ h => h) (by rfl) (fun W hSw => exec_load_adr (.tmp 28) rfl w.heap.size p HF.out rfl hSw.1.1) (by assumption) ?_
              simp only [List.setIfInBounds_toArray, List.set_cons_zero, List.set_cons_succ]
              refine held_take (v := arrV q.addr) 20 rfl (by kernel_rfl) (by kernel_rfl) (by kernel_rfl) (fun _ _ _ h => h) (by rfl) (fun W hSw => exec_load_adr (.tmp 32) rfl (w.heap.size + 1) q HG.out rfl hSw.1.2.1) (by assumption) ?_
              simp only [List.setIfInBounds_toArray, List.set_cons_zero, List.set_cons_succ]
              refine held_one 18 rfl (by kernel_rfl) (by rfl) (fun K hK => ?_)
              go_simp
              refine (H1.out _).mono ?_
              rintro e w1 ⟨rfl, b1⟩
              refine hK.out _ _ (CommZ.up hHeld b1) (fun hHeld => ?_)
              clear hK K
              refine held_one 22 rfl (by kernel_rfl) (by rfl) (fun K hK => ?_)
              go_simp
              refine (H2.out _).mono ?_
              rintro e w2 ⟨rfl, b2⟩
              refine hK.out _ _ (CommZ.up hHeld b2) (fun hHeld => ?_)
              clear hK K
              refine held_take (v := ?v395) 23 rfl (by kernel_rfl) (by kernel_rfl) (by kernel_rfl) (fun _ _ _ h => h) (by rfl) ?y395 (by assumption) ?_
              case y395 => (intro w hSw; unfold CommZ at hSw; go_simp; (try with_reducible rfl); (try omega))
              simp only [List.setIfInBounds_toArray, List.set_cons_zero, List.set_cons_succ]
              refine held_take (v := ?v398) 24 rfl (by kernel_rfl) (by kernel_rfl) (by kernel_rfl) (fun _ _ _ h => h) (by rfl) ?y398 (by assumption) ?_
              case y398 => (intro w hSw; unfold CommZ at hSw; go_simp; (try with_reducible rfl); (try omega))
              simp only [List.setIfInBounds_toArray, List.set_cons_zero, List.set_cons_succ]
              refine wpAnyH_done (by kernel_rfl) ?_ _
              refine NoPanic.normal ?_
              have HZ := Lib.hid hHeld
              clear hHeld
              have hs0 := HZ.out.1.1.six
              have HOn := Lib.hid (fun W => HO.out (n : Int) W)
              go_wp2_with (first | (refine wpList_load_arrR rfl (.tmp 42) rfl w.heap.size 1 p.addr HF.out rfl HZ.out.1.1.range ?_) | (go_at_call 15; refine (HOn.out _).mono ?_; rintro e w3 ⟨rfl, b3⟩; refine Hid.out ?_))
              refine Lib.hid ?_
              have Z3 := Lib.hid (HZ.out.up b3)
              clear HZ b3 hs0
              go_wp2_with (refine wpList_store_pfx rfl (.tmp 4) (.tmp 45) rfl (w.heap.size + 1 + 1) (ofP p.six p.addr (n : Int)) (of_len _ _ _) _ rfl rfl Z3.out.2 rfl ?_)
              exact bodyPost_ret (results_pfx2 Tryd.results21 _ _ (w.heap.size + 1 + 1) (ofP p.six p.addr (n : Int)) (of_len _ _ _) rfl (pfxT_setRow Z3.out.2 _)) rfl ⟨by rw [HCN.out]; rfl, below_setRow Z3.out.1.2.2 (by omega) _⟩
          · rw [HSP.out n (fun h => h3 h.2.2.1)] at hcom
            have HCN := Lib.hid hcom
            clear hcom
            go_wp2_with fail
            refine wp_region_noPanic ?_
            refine wp_region_held_drew (S := CommZ w p q) (by kernel_rfl) hz.drew (fun hHeld => ?_)
            clear hz
            refine held_take (v := ?v420) 0 rfl (by kernel_rfl) (by kernel_rfl) (by kernel_rfl) (fun _ _ _ h => h) (by rfl) ?y420 (by assumption) ?_
            case y420 => (intro w hSw; unfold CommZ at hSw; go_simp; (try with_reducible rfl); (try omega))
            simp only [List.setIfInBounds_toArray, List.set_cons_zero, List.set_cons_succ]
            refine held_take (v := ?v423) 1 rfl (by kernel_rfl) (by kernel_rfl) (by kernel_rfl) (fun _ _ _ h => h) (by rfl) ?y423 (by assumption) ?_
            case y423 => (intro w hSw; unfold CommZ at hSw; go_simp; (try with_reducible rfl); (try omega))
            simp only [List.setIfInBounds_toArray, List.set_cons_zero, List.set_cons_succ]
            refine held_take (v := .int .i64 p.len) 2 rfl (by kernel_rfl) (by kernel_rfl) (by kernel_rfl) (fun _ _ _ h => h) (by rfl) (fun W hSw => exec_load_len (.tmp 14) rfl w.heap.size p HF.out rfl hSw.1.1) (by assumption) ?_
            simp only [List.setIfInBounds_toArray, List.set_cons_zero, List.set_cons_succ]
            refine held_take (v := ?v428) 3 rfl (by kernel_rfl) (by kernel_rfl) (by kernel_rfl) (fun _ _ _ h => h) (by rfl) ?y428 (by assumption) ?_
            case y428 => (intro w hSw; unfold CommZ at hSw; go_simp; (try with_reducible rfl); (try omega))
            simp only [List.setIfInBounds_toArray, List.set_cons_zero, List.set_cons_succ]
            (try rw [decide_eq_true (show (n : Int) < p.len by omega)])
            refine held_take (v := ?v432) 4 rfl (by kernel_rfl) (by kernel_rfl) (by kernel_rfl) (fun _ _ _ h => h) (by rfl) ?y432 (by assumption) ?_
            case y432 => (intro w hSw; unfold CommZ at hSw; go_simp; (try with_reducible rfl); (try omega))
            simp only [List.setIfInBounds_toArray, List.set_cons_zero, List.set_cons_succ]
            refine held_take (v := ?v435) 5 rfl (by kernel_rfl) (by kernel_rfl) (by kernel_rfl) (fun _ _ _ h => h) (by rfl) ?y435 (by assumption) ?_
            case y435 => (intro w hSw; unfold CommZ at hSw; go_simp; (try with_reducible rfl); (try omega))
            simp only [List.setIfInBounds_toArray, List.set_cons_zero, List.set_cons_succ]
            refine held_take (v := ?v438) 6 rfl (by kernel_rfl) (by kernel_rfl) (by kernel_rfl) (fun _ _ _ h => h) (by rfl) ?y438 (by assumption) ?_
            case y438 => (intro w hSw; unfold CommZ at hSw; go_simp; (try with_reducible rfl); (try omega))
            simp only [List.setIfInBounds_toArray, List.set_cons_zero, List.set_cons_succ]
            refine held_take (v := .int .i64 q.len) 7 rfl (by kernel_rfl) (by kernel_rfl) (by kernel_rfl) (fun _ _ _ h => h) (by rfl) (fun W hSw => exec_load_len (.tmp 19) rfl (w.heap.size + 1) q HG.out rfl hSw.1.2.1) (by assumption) ?_
            simp only [List.setIfInBounds_toArray, List.set_cons_zero, List.set_cons_succ]
            refine held_take (v := ?v443) 8 rfl (by kernel_rfl) (by kernel_rfl) (by kernel_rfl) (fun _ _ _ h => h) (by rfl) ?y443 (by assumption) ?_
            case y443 => (intro w hSw; unfold CommZ at hSw; go_simp; (try with_reducible rfl); (try omega))
            simp only [List.setIfInBounds_toArray, List.set_cons_zero, List.set_cons_succ]
            (try rw [decide_eq_true (show (n : Int) < q.len by omega)])
            refine held_take (v := ?v447) 9 rfl (by kernel_rfl) (by kernel_rfl) (by kernel_rfl) (fun _ _ _ h => h) (by rfl) ?y447 (by assumption) ?_
            case y447 => (intro w hSw; unfold CommZ at hSw; go_simp; (try with_reducible rfl); (try omega))
            simp only [List.setIfInBounds_toArray, List.set_cons_zero, List.set_cons_succ]
            refine held_take (v := ?v450) 10 rfl (by kernel_rfl) (by kernel_rfl) (by kernel_rfl) (fun _ _ _ h => h) (by rfl) ?y450 (by assumption) ?_
            case y450 => (intro w hSw; unfold CommZ at hSw; go_simp; (try with_reducible rfl); (try omega))
            simp only [List.setIfInBounds_toArray, List.set_cons_zero, List.set_cons_succ]
            refine held_take (v := ?v453) 11 rfl (by kernel_rfl) (by kernel_rfl) (by kernel_rfl) (fun _ _ _ h => h) (by rfl) ?y453 (by assumption) ?_
            case y453 => (intro w hSw; unfold CommZ at hSw; go_simp; (try with_reducible rfl); (try omega))
            simp only [List.setIfInBounds_toArray, List.set_cons_zero, List.set_cons_succ]
            refine held_take (v := ?v456) 12 rfl (by kernel_rfl) (by kernel_rfl) (by kernel_rfl) (fun _ _ _ h => h) (by rfl) ?y456 (by assumption) ?_
            case y456 => (intro w hSw; unfold CommZ at hSw; go_simp; (try with_reducible rfl); (try omega))
            simp only [List.setIfInBounds_toArray, List.set_cons_zero, List.set_cons_succ]
            (try rw [decide_eq_false (show ¬ (n : Int) < 128 by omega)])
            refine held_take (v := ?v460) 13 rfl (by kernel_rfl) (by kernel_rfl) (by kernel_rfl) (fun _ _ _ h => h) (by rfl) ?y460 (by assumption) ?_
            case y460 => (intro w hSw; unfold CommZ at hSw; go_simp; (try with_reducible rfl); (try omega))
            simp only [List.setIfInBounds_toArray, List.set_cons_zero, List.set_cons_succ]
            refine held_take (v := ?v463) 14 rfl (by kernel_rfl) (by kernel_rfl) (by kernel_rfl) (fun _ _ _ h => h) (by rfl) ?y463 (by assumption) ?_
            case y463 => (intro w hSw; unfold CommZ at hSw; go_simp; (try with_reducible rfl); (try omega))
            simp only [List.setIfInBounds_toArray, List.set_cons_zero, List.set_cons_succ]
            refine held_skip 15 rfl (by kernel_rfl) (by kernel_rfl) (by kernel_rfl) (fun _ _ _ h => h) (by rfl) (by assumption) ?_
            simp only [List.setIfInBounds_toArray, List.set_cons_zero, List.set_cons_succ]
            refine held_skip 16 rfl (by kernel_rfl) (by kernel_rfl) (by kernel_rfl) (fun _ _ _ h => h) (by rfl) (by assumption) ?_
            simp only [List.setIfInBounds_toArray, List.set_cons_zero, List.set_cons_succ]
            refine held_skip 17 rfl (by kernel_rfl) (by kernel_rfl) (by kernel_rfl) (fun _ _ _ h => h) (by rfl) (by assumption) ?_
            simp only [List.setIfInBounds_toArray, List.set_cons_zero, List.set_cons_succ]
            refine held_skip 18 rfl (by kernel_rfl) (by kernel_rfl) (by kernel_rfl) (fun _ _ _ h => h) (by rfl) (by assumption) ?_
            simp only [List.setIfInBounds_toArray, List.set_cons_zero, List.set_cons_succ]
            refine held_skip 19 rfl (by kernel_rfl) (by kernel_rfl) (by kernel_rfl) (fun _ _ _ h => h) (by rfl) (by assumption) ?_
            simp only [List.setIfInBounds_toArray, List.set_cons_zero, List.set_cons_succ]
            refine held_skip 20 rfl (by kernel_rfl) (by kernel_rfl) (by kernel_rfl) (fun _ _ _ h => h) (by rfl) (by assumption) ?_
            simp only [List.setIfInBounds_toArray, List.set_cons_zero, List.set_cons_succ]
            refine held_skip 21 rfl (by kernel_rfl) (by kernel_rfl) (by kernel_rfl) (fun _ _ _ h => h) (by rfl) (by assumption) ?_
            simp only [List.setIfInBounds_toArray, List.set_cons_zero, List.set_cons_succ]
            refine held_skip 22 rfl (by kernel_rfl) (by kernel_rfl) (by kernel_rfl) (fun _ _ _ h => h) (by rfl) (by assumption) ?_
            simp only [List.setIfInBounds_toArray, List.set_cons_zero, List.set_cons_succ]
            refine held_skip 23 rfl (by kernel_rfl) (by kernel_rfl) (by kernel_rfl) (fun _ _ _ h => h) (by rfl) (by assumption) ?_
            simp only [List.setIfInBounds_toArray, List.set_cons_zero, List.set_cons_succ]
            refine held_take (v := ?v484) 24 rfl (by kernel_rfl) (by kernel_rfl) (by kernel_rfl) (fun _ _ _ h => h) (by rfl) ?y484 (by assumption) ?_
            case y484 => (intro w hSw; unfold CommZ at hSw; go_simp; (try with_reducible rfl); (try omega))
            simp only [List.setIfInBounds_toArray, List.set_cons_zero, List.set_cons_succ]
            refine wpAnyH_done (by kernel_rfl) ?_ _
            refine NoPanic.normal ?_
            have HZ := Lib.hid hHeld
            clear hHeld
            have hs0 := HZ.out.1.1.six
            have HOn := Lib.hid (fun W => HO.out (n : Int) W)
            go_wp2_with (first | (refine wpList_load_arrR rfl (.tmp 42) rfl w.heap.size 1 p.addr HF.out rfl HZ.out.1.1.range ?_) | (go_at_call 15; refine (HOn.out _).mono ?_; rintro e w3 ⟨rfl, b3⟩; refine Hid.out ?_))
            refine Lib.hid ?_
            have Z3 := Lib.hid (HZ.out.up b3)
            clear HZ b3 hs0
            go_wp2_with (refine wpList_store_pfx rfl (.tmp 4) (.tmp 45) rfl (w.heap.size + 1 + 1) (ofP p.six p.addr (n : Int)) (of_len _ _ _) _ rfl rfl Z3.out.2 rfl ?_)
            exact bodyPost_ret (results_pfx2 Tryd.results21 _ _ (w.heap.size + 1 + 1) (ofP p.six p.addr (n : Int)) (of_len _ _ _) rfl (pfxT_setRow Z3.out.2 _)) rfl ⟨by rw [HCN.out]; rfl, below_setRow Z3.out.1.2.2 (by omega) _⟩
        · rw [HSP.out n (fun h => h2 h.2.1)] at hcom
          have HCN := Lib.hid hcom
          clear hcom
          go_wp2_with fail
          refine wp_region_noPanic ?_
          refine wp_region_held_drew (S := CommZ w p q) (by kernel_rfl) hz.drew (fun hHeld => ?_)
          clear hz
          refine held_take (v := ?v506) 0 rfl (by kernel_rfl) (by kernel_rfl) (by kernel_rfl) (fun _ _ _ h => h) (by rfl) ?y506 (by assumption) ?_
          case y506 => (intro w hSw; unfold CommZ at hSw; go_simp; (try with_reducible rfl); (try omega))
          simp only [List.setIfInBounds_toArray, List.set_cons_zero, List.set_cons_succ]
          refine held_take (v := ?v509) 1 rfl (by kernel_rfl) (by kernel_rfl) (by kernel_rfl) (fun _ _ _ h => h) (by rfl) ?y509 (by assumption) ?_
          case y509 => (intro w hSw; unfold CommZ at hSw; go_simp; (try with_reducible rfl); (try omega))
          simp only [List.setIfInBounds_toArray, List.set_cons_zero, List.set_cons_succ]
          refine held_take (v := .int .i64 p.len) 2 rfl (by kernel_rfl) (by kernel_rfl) (by kernel_rfl) (fun _ _ _ h => h) (by rfl) (fun W hSw => exec_load_len (.tmp 14) rfl w.heap.size p HF.out rfl hSw.1.1) (by assumption) ?_
          simp only [List.setIfInBounds_toArray, List.set_cons_zero, List.set_cons_succ]
          refine held_take (v := ?v514) 3 rfl (by kernel_rfl) (by kernel_rfl) (by kernel_rfl) (fun _ _ _ h => h) (by rfl) ?y514 (by assumption) ?_
          case y514 => (intro w hSw; unfold CommZ at hSw; go_simp; (try with_reducible rfl); (try omega))
          simp only [List.setIfInBounds_toArray, List.set_cons_zero, List.set_cons_succ]
          (try rw [decide_eq_true (show (n : Int) < p.len by omega)])
          refine held_take (v := ?v518) 4 rfl (by kernel_rfl) (by kernel_rfl) (by kernel_rfl) (fun _ _ _ h => h) (by rfl) ?y518 (by assumption) ?_
          case y518 => (intro w hSw; unfold CommZ at hSw; go_simp; (try with_reducible rfl); (try omega))
          simp only [List.setIfInBounds_toArray, List.set_cons_zero, List.set_cons_succ]
          refine held_take (v := ?v521) 5 rfl (by kernel_rfl) (by kernel_rfl) (by kernel_rfl) (fun _ _ _ h => h) (by rfl) ?y521 (by assumption) ?_
          case y521 => (intro w hSw; unfold CommZ at hSw; go_simp; (try with_reducible rfl); (try omega))
          simp only [List.setIfInBounds_toArray, List.set_cons_zero, List.set_cons_succ]
          refine held_take (v := ?v524) 6 rfl (by kernel_rfl) (by kernel_rfl) (by kernel_rfl) (fun _ _ _ h => h) (by rfl) ?y524 (by assumption) ?_
          case y524 => (intro w hSw; unfold CommZ at hSw; go_simp; (try with_reducible rfl); (try omega))
          simp only [List.setIfInBounds_toArray, List.set_cons_zero, List.set_cons_succ]
          refine held_take (v := .int .i64 q.len) 7 rfl (by kernel_rfl) (by kernel_rfl) (by kernel_rfl) (fun _ _ _ h => h) (by rfl) (fun W hSw => exec_load_len (.tmp 19) rfl (w.heap.size + 1) q HG.out rfl hSw.1.2.1) (by assumption) ?_
          simp only [List.setIfInBounds_toArray, List.set_cons_zero, List.set_cons_succ]
          refine held_take (v := ?v529) 8 rfl (by kernel_rfl) (by kernel_rfl) (by kernel_rfl) (fun _ _ _ h => h) (by rfl) ?y529 (by assumption) ?_
          case y529 => (intro w hSw; unfold CommZ at hSw; go_simp; (try with_reducible rfl); (try omega))
          simp only [List.setIfInBounds_toArray, List.set_cons_zero, List.set_cons_succ]
          (try rw [decide_eq_false (show ¬ (n : Int) < q.len by omega)])
          refine held_take (v := ?v533) 9 rfl (by kernel_rfl) (by kernel_rfl) (by kernel_rfl) (fun _ _ _ h => h) (by rfl) ?y533 (by assumption) ?_
          case y533 => (intro w hSw; unfold CommZ at hSw; go_simp; (try with_reducible rfl); (try omega))
          simp only [List.setIfInBounds_toArray, List.set_cons_zero, List.set_cons_succ]
          refine held_take (v := ?v536) 10 rfl (by kernel_rfl) (by kernel_rfl) (by kernel_rfl) (fun _ _ _ h => h) (by rfl) ?y536 (by assumption) ?_
          case y536 => (intro w hSw; unfold CommZ at hSw; go_simp; (try with_reducible rfl); (try omega))
          simp only [List.setIfInBounds_toArray, List.set_cons_zero, List.set_cons_succ]
          refine held_skip 11 rfl (by kernel_rfl) (by kernel_rfl) (by kernel_rfl) (fun _ _ _ h => h) (by rfl) (by assumption) ?_
          simp only [List.setIfInBounds_toArray, List.set_cons_zero, List.set_cons_succ]
          refine held_skip 12 rfl (by kernel_rfl) (by kernel_rfl) (by kernel_rfl) (fun _ _ _ h => h) (by rfl) (by assumption) ?_
          simp only [List.setIfInBounds_toArray, List.set_cons_zero, List.set_cons_succ]
          refine held_take (v := ?v543) 13 rfl (by kernel_rfl) (by kernel_rfl) (by kernel_rfl) (fun _ _ _ h => h) (by rfl) ?y543 (by assumption) ?_
          case y543 => (intro w hSw; unfold CommZ at hSw; go_simp; (try with_reducible rfl); (try omega))
          simp only [List.setIfInBounds_toArray, List.set_cons_zero, List.set_cons_succ]
          refine held_take (v := ?v546) 14 rfl (by kernel_rfl) (by kernel_rfl) (by kernel_rfl) (fun _ _ _ h => h) (by rfl) ?y546 (by assumption) ?_
          case y546 => (intro w hSw; unfold CommZ at hSw; go_simp; (try with_reducible rfl); (try omega))
          simp only [List.setIfInBounds_toArray, List.set_cons_zero, List.set_cons_succ]
          refine held_skip 15 rfl (by kernel_rfl) (by kernel_rfl) (by kernel_rfl) (fun _ _ _ h => h) (by rfl) (by assumption) ?_
          simp only [List.setIfInBounds_toArray, List.set_cons_zero, List.set_cons_succ]
          refine held_skip 16 rfl (by kernel_rfl) (by kernel_rfl) (by kernel_rfl) (fun _ _ _ h => h) (by rfl) (by assumption) ?_
          simp only [List.setIfInBounds_toArray, List.set_cons_zero, List.set_cons_succ]
          refine held_skip 17 rfl (by kernel_rfl) (by kernel_rfl) (by kernel_rfl) (fun _ _ _ h => h) (by rfl) (by assumption) ?_
          simp only [List.setIfInBounds_toArray, List.set_cons_zero, List.set_cons_succ]
          refine held_skip 18 rfl (by kernel_rfl) (by kernel_rfl) (by kernel_rfl) (fun _ _ _ h => h) (by rfl) (by assumption) ?_
          simp only [List.setIfInBounds_toArray, List.set_cons_zero, List.set_cons_succ]
          refine held_skip 19 rfl (by kernel_rfl) (by kernel_rfl) (by kernel_rfl) (fun _ _ _ h => h) (by rfl) (by assumption) ?_
          simp only [List.setIfInBounds_toArray, List.set_cons_zero, List.set_cons_succ]
          refine held_skip 20 rfl (by kernel_rfl) (by kernel_rfl) (by kernel_rfl) (fun _ _ _ h => h) (by rfl) (by assumption) ?_
          simp only [List.setIfInBounds_toArray, List.set_cons_zero, List.set_cons_succ]
          refine held_skip 21 rfl (by kernel_rfl) (by kernel_rfl) (by kernel_rfl) (fun _ _ _ h => h) (by rfl) (by assumption) ?_
          simp only [List.setIfInBounds_toArray, List.set_cons_zero, List.set_cons_succ]
          refine held_skip 22 rfl (by kernel_rfl) (by kernel_rfl) (by kernel_rfl) (fun _ _ _ h => h) (by rfl) (by assumption) ?_
          simp only [List.setIfInBounds_toArray, List.set_cons_zero, List.set_cons_succ]
          refine held_skip 23 rfl (by kernel_rfl) (by kernel_rfl) (by kernel_rfl) (fun _ _ _ h => h) (by rfl) (by assumption) ?_
          simp only [List.setIfInBounds_toArray, List.set_cons_zero, List.set_cons_succ]
          refine held_take (v := ?v567) 24 rfl (by kernel_rfl) (by kernel_rfl) (by kernel_rfl) (fun _ _ _ h => h) (by rfl) ?y567 (by assumption) ?_
          case y567 => (intro w hSw; unfold CommZ at hSw; go_simp; (try with_reducible rfl); (try omega))
          simp only [List.setIfInBounds_toArray, List.set_cons_zero, List.set_cons_succ]
          refine wpAnyH_done (by kernel_rfl) ?_ _
          refine NoPanic.normal ?_
          have HZ := Lib.hid hHeld
          clear hHeld
          have hs0 := HZ.out.1.1.six
          have HOn := Lib.hid (fun W => HO.out (n : Int) W)
          go_wp2_with (first | (refine wpList_load_arrR rfl (.tmp 42) rfl w.heap.size 1 p.addr HF.out rfl HZ.out.1.1.range ?_) | (go_at_call 15; refine (HOn.out _).mono ?_; rintro e w3 ⟨rfl, b3⟩; refine Hid.out ?_))
          refine Lib.hid ?_
          have Z3 := Lib.hid (HZ.out.up b3)
          clear HZ b3 hs0
          go_wp2_with (refine wpList_store_pfx rfl (.tmp 4) (.tmp 45) rfl (w.heap.size + 1 + 1) (ofP p.six p.addr (n : Int)) (of_len _ _ _) _ rfl rfl Z3.out.2 rfl ?_)
          exact bodyPost_ret (results_pfx2 Tryd.results21 _ _ (w.heap.size + 1 + 1) (ofP p.six p.addr (n : Int)) (of_len _ _ _) rfl (pfxT_setRow Z3.out.2 _)) rfl ⟨by rw [HCN.out]; rfl, below_setRow Z3.out.1.2.2 (by omega) _⟩
      · rw [HSP.out n (fun h => h1 h.1)] at hcom
        have HCN := Lib.hid hcom
        clear hcom
        go_wp2_with fail
        refine wp_region_noPanic ?_
        refine wp_region_held_drew (S := CommZ w p q) (by kernel_rfl) hz.drew (fun hHeld => ?_)
        clear hz
        refine held_take (v := ?v589) 0 rfl (by kernel_rfl) (by kernel_rfl) (by kernel_rfl) (fun _ _ _ h => h) (by rfl) ?y589 (by assumption) ?_
        case y589 => (intro w hSw; unfold CommZ at hSw; go_simp; (try with_reducible rfl); (try omega))
        simp only [List.setIfInBounds_toArray, List.set_cons_zero, List.set_cons_succ]
        refine held_take (v := ?v592) 1 rfl (by kernel_rfl) (by kernel_rfl) (by kernel_rfl) (fun _ _ _ h => h) (by rfl) ?y592 (by assumption) ?_
        case y592 => (intro w hSw; unfold CommZ at hSw; go_simp; (try with_reducible rfl); (try omega))
        simp only [List.setIfInBounds_toArray, List.set_cons_zero, List.set_cons_succ]
        refine held_take (v := .int .i64 p.len) 2 rfl (by kernel_rfl) (by kernel_rfl) (by kernel_rfl) (fun _ _ _ h => h) (by rfl) (fun W hSw => exec_load_len (.tmp 14) rfl w.heap.size p HF.out rfl hSw.1.1) (by assumption) ?_
        simp only [List.setIfInBounds_toArray, List.set_cons_zero, List.set_cons_succ]
        refine held_take (v := ?v597) 3 rfl (by kernel_rfl) (by kernel_rfl) (by kernel_rfl) (fun _ _ _ h => h) (by rfl) ?y597 (by assumption) ?_
        case y597 => (intro w hSw; unfold CommZ at hSw; go_simp; (try with_reducible rfl); (try omega))
        simp only [List.setIfInBounds_toArray, List.set_cons_zero, List.set_cons_succ]
        (try rw [decide_eq_false (show ¬ (n : Int) < p.len by omega)])
        refine held_take (v := ?v601) 4 rfl (by kernel_rfl) (by kernel_rfl) (by kernel_rfl) (fun _ _ _ h => h) (by rfl) ?y601 (by assumption) ?_
        case y601 => (intro w hSw; unfold CommZ at hSw; go_simp; (try with_reducible rfl); (try omega))
        simp only [List.setIfInBounds_toArray, List.set_cons_zero, List.set_cons_succ]
        refine held_skip 5 rfl (by kernel_rfl) (by kernel_rfl) (by kernel_rfl) (fun _ _ _ h => h) (by rfl) (by assumption) ?_
        simp only [List.setIfInBounds_toArray, List.set_cons_zero, List.set_cons_succ]
        refine held_skip 6 rfl (by kernel_rfl) (by kernel_rfl) (by kernel_rfl) (fun _ _ _ h => h) (by rfl) (by assumption) ?_
        simp only [List.setIfInBounds_toArray, List.set_cons_zero, List.set_cons_succ]
        refine held_skip 7 rfl (by kernel_rfl) (by kernel_rfl) (by kernel_rfl) (fun _ _ _ h => h) (by rfl) (by assumption) ?_
        simp only [List.setIfInBounds_toArray, List.set_cons_zero, List.set_cons_succ]
        refine held_skip 8 rfl (by kernel_rfl) (by kernel_rfl) (by kernel_rfl) (fun _ _ _ h => h) (by rfl) (by assumption) ?_
        simp only [List.setIfInBounds_toArray, List.set_cons_zero, List.set_cons_succ]
        refine held_take (v := ?v612) 9 rfl (by kernel_rfl) (by kernel_rfl) (by kernel_rfl) (fun _ _ _ h => h) (by rfl) ?y612 (by assumption) ?_
        case y612 => (intro w hSw; unfold CommZ at hSw; go_simp; (try with_reducible rfl); (try omega))
        simp only [List.setIfInBounds_toArray, List.set_cons_zero, List.set_cons_succ]
        refine held_take (v := ?v615) 10 rfl (by kernel_rfl) (by kernel_rfl) (by kernel_rfl) (fun _ _ _ h => h) (by rfl) ?y615 (by assumption) ?_
        case y615 => (intro w hSw; unfold CommZ at hSw; go_simp; (try with_reducible rfl); (try omega))
        simp only [List.setIfInBounds_toArray, List.set_cons_zero, List.set_cons_succ]
        refine held_skip 11 rfl (by kernel_rfl) (by kernel_rfl) (by kernel_rfl) (fun _ _ _ h => h) (by rfl) (by assumption) ?_
        simp only [List.setIfInBounds_toArray, List.set_cons_zero, List.set_cons_succ]
        refine held_skip 12 rfl (by kernel_rfl) (by kernel_rfl) (by kernel_rfl) (fun _ _ _ h => h) (by rfl) (by assumption) ?_
        simp only [List.setIfInBounds_toArray, List.set_cons_zero, List.set_cons_succ]
        refine held_take (v := ?v622) 13 rfl (by kernel_rfl) (by kernel_rfl) (by kernel_rfl) (fun _ _ _ h => h) (by rfl) ?y622 (by assumption) ?_
        case y622 => (intro w hSw; unfold CommZ at hSw; go_simp; (try with_reducible rfl); (try omega))
        simp only [List.setIfInBounds_toArray, List.set_cons_zero, List.set_cons_succ]
        refine held_take (v := ?v625) 14 rfl (by kernel_rfl) (by kernel_rfl) (by kernel_rfl) (fun _ _ _ h => h) (by rfl) ?y625 (by assumption) ?_
        case y625 => (intro w hSw; unfold CommZ at hSw; go_simp; (try with_reducible rfl); (try omega))
        simp only [List.setIfInBounds_toArray, List.set_cons_zero, List.set_cons_succ]
        refine held_skip 15 rfl (by kernel_rfl) (by kernel_rfl) (by kernel_rfl) (fun _ _ _ h => h) (by rfl) (by assumption) ?_
        simp only [List.setIfInBounds_toArray, List.set_cons_zero, List.set_cons_succ]
        refine held_skip 16 rfl (by kernel_rfl) (by kernel_rfl) (by kernel_rfl) (fun _ _ _ h => h) (by rfl) (by assumption) ?_
        simp only [List.setIfInBounds_toArray, List.set_cons_zero, List.set_cons_succ]
        refine held_skip 17 rfl (by kernel_rfl) (by kernel_rfl) (by kernel_rfl) (fun _ _ _ h => h) (by rfl) (by assumption) ?_
        simp only [List.setIfInBounds_toArray, List.set_cons_zero, List.set_cons_succ]
        refine held_skip 18 rfl (by kernel_rfl) (by kernel_rfl) (by kernel_rfl) (fun _ _ _ h => h) (by rfl) (by assumption) ?_
        simp only [List.setIfInBounds_toArray, List.set_cons_zero, List.set_cons_succ]
        refine held_skip 19 rfl (by kernel_rfl) (by kernel_rfl) (by kernel_rfl) (fun _ _ _ h => h) (by rfl) (by assumption) ?_
        simp only [List.setIfInBounds_toArray, List.set_cons_zero, List.set_cons_succ]
        refine held_skip 20 rfl (by kernel_rfl) (by kernel_rfl) (by kernel_rfl) (fun _ _ _ h => h) (by rfl) (by assumption) ?_
        simp only [List.setIfInBounds_toArray, List.set_cons_zero, List.set_cons_succ]
        refine held_skip 21 rfl (by kernel_rfl) (by kernel_rfl) (by kernel_rfl) (fun _ _ _ h => h) (by rfl) (by assumption) ?_
        simp only [List.setIfInBounds_toArray, List.set_cons_zero, List.set_cons_succ]
        refine held_skip 22 rfl (by kernel_rfl) (by kernel_rfl) (by kernel_rfl) (fun _ _ _ h => h) (by rfl) (by assumption) ?_
        simp only [List.setIfInBounds_toArray, List.set_cons_zero, List.set_cons_succ]
        refine held_skip 23 rfl (by kernel_rfl) (by kernel_rfl) (by kernel_rfl) (fun _ _ _ h => h) (by rfl) (by assumption) ?_
        simp only [List.setIfInBounds_toArray, List.set_cons_zero, List.set_cons_succ]
        refine held_take (v := ?v646) 24 rfl (by kernel_rfl) (by kernel_rfl) (by kernel_rfl) (fun _ _ _ h => h) (by rfl) ?y646 (by assumption) ?_
        case y646 => (intro w hSw; unfold CommZ at hSw; go_simp; (try with_reducible rfl); (try omega))
        simp only [List.setIfInBounds_toArray, List.set_cons_zero, List.set_cons_succ]
        refine wpAnyH_done (by kernel_rfl) ?_ _
        refine NoPanic.normal ?_
        have HZ := Lib.hid hHeld
        clear hHeld
        have hs0 := HZ.out.1.1.six
        have HOn := Lib.hid (fun W => HO.out (n : Int) W)
        go_wp2_with (first | (refine wpList_load_arrR rfl (.tmp 42) rfl w.heap.size 1 p.addr HF.out rfl HZ.out.1.1.range ?_) | (go_at_call 15; refine (HOn.out _).mono ?_; rintro e w3 ⟨rfl, b3⟩; refine Hid.out ?_))
        refine Lib.hid ?_
        have Z3 := Lib.hid (HZ.out.up b3)
        clear HZ b3 hs0
        go_wp2_with (refine wpList_store_pfx rfl (.tmp 4) (.tmp 45) rfl (w.heap.size + 1 + 1) (ofP p.six p.addr (n : Int)) (of_len _ _ _) _ rfl rfl Z3.out.2 rfl ?_)
        exact bodyPost_ret (results_pfx2 Tryd.results21 _ _ (w.heap.size + 1 + 1) (ofP p.six p.addr (n : Int)) (of_len _ _ _) rfl (pfxT_setRow Z3.out.2 _)) rfl ⟨by rw [HCN.out]; rfl, below_setRow Z3.out.1.2.2 (by omega) _⟩
  · have e : comV p q = zeroP := by unfold comV; rw [if_neg h6]
    rw [e, beq_eq_false_iff_ne.2 h6]
    clear e f g
    generalize p.six = s at *
    generalize q.six = u at *
    go_enter Tryd.func21, Tryd.ntmps21
    cases s <;> cases u
    · exact absurd rfl h6
    · go_wp2_with (first | (refine wpList_build_pfx0 rfl rfl ?_) | (refine wpList_store_pfx rfl (.tmp 4) (.tmp 12) rfl (w.heap.size + 1 + 1) zeroP rfl _ rfl rfl Z.out.2 rfl ?_))
      exact bodyPost_ret (results_pfx2 Tryd.results21 _ _ (w.heap.size + 1 + 1) zeroP rfl rfl (pfxT_setRow Z.out.2 _)) rfl ⟨rfl, below_setRow Z.out.1.2.2 (by omega) _⟩
    · go_wp2_with (first | (refine wpList_build_pfx0 rfl rfl ?_) | (refine wpList_store_pfx rfl (.tmp 4) (.tmp 12) rfl (w.heap.size + 1 + 1) zeroP rfl _ rfl rfl Z.out.2 rfl ?_))
      exact bodyPost_ret (results_pfx2 Tryd.results21 _ _ (w.heap.size + 1 + 1) zeroP rfl rfl (pfxT_setRow Z.out.2 _)) rfl ⟨rfl, below_setRow Z.out.1.2.2 (by omega) _⟩
    · exact absurd rfl h6
end Go.Proofs.YtlbgmpjeckigjaaDoor

/- The document's prefixes: Bit, most, Check, Of. -/
import Derived.Test.YtecefdocemkliaaPre5
namespace Go.Proofs.Ytecefdocemkliaa
open Go Go.RowKit

theorem qmost_any (b : Bool) (w : World) : Calls Try.prog 29 #[.bool b] w fun e w' => e = .returned (.int .i64 (mostP b)) ∧ w' = w := by
  cases b <;> (go_enter Try.func29, Try.ntmps29; go_wp2; go_ret; exact ⟨rfl, rfl⟩)
theorem bit_table2 : ∀ (j : Fin 8) (x : Fin 256), bits BinOp.and IntKind.i64 (wrap64 (x.val : Int) / 2 ^ (7 - j.val)) 1 = if x.val.testBit (7 - j.val) = true then 1 else 0 := by decide +kernel
set_option maxRecDepth 100000 in
set_option maxHeartbeats 4000000 in
theorem qbit_any (a : List UInt8) (i : Int) (w : World) (ha : a.length = 16) :
    Calls Try.prog 30 #[arrV a, .int .i64 i] w fun r w' => r = .returned (.int .i64 (bitI a i)) ∧ Below w.heap.size w w' := by
  have hb : Below w.heap.size w (w.alloc (.cells (byteVals a).toArray 30)) := (Below.refl _ _).alloc (Nat.le_refl _) _
  have HB := Lib.hid hb
  rw [show arrV a = .agg (byteVals a).toArray from rfl]
  clear hb
  by_cases h0 : i < 0
  · have e : bitI a i = 0 := by unfold bitI; rw [if_neg (by omega)]
    rw [e]
    clear ha
    go_enter Try.func30, Try.ntmps30
    go_wp2
    go_ret
    exact ⟨rfl, HB.out⟩
  by_cases h1 : 127 < i
  · have e : bitI a i = 0 := by unfold bitI; rw [if_neg (by omega)]
    rw [e]
    clear ha
    go_enter Try.func30, Try.ntmps30
    go_wp2
    go_ret
    exact ⟨rfl, HB.out⟩
  obtain ⟨k, rfl⟩ : ∃ k : Nat, i = (k : Int) := ⟨i.toNat, by omega⟩
  have hk : k < 128 := by omega
  have c := (arrT_new (t := 30) w a).cell (k / 8) (by omega)
  go_enter Try.func30, Try.ntmps30
  go_wp2
  go_ret
  refine ⟨?_, HB.out⟩
  have e : bits BinOp.and IntKind.i64 (wrap64 (byteAt a (k / 8)) / 2 ^ (7 - k % 8)) 1 = bitI a (k : Int) := by
    have := bit_table2 ⟨k % 8, by omega⟩ ⟨(a.getD (k / 8) 0).toNat, UInt8.toNat_lt _⟩
    refine this.trans ?_
    unfold bitI bitL
    rw [Int.toNat_natCast]
    by_cases hq : (a.getD (k / 8) 0).toNat.testBit (7 - k % 8) = true
    · rw [if_pos hq, if_pos ⟨by omega, by omega, hq⟩]
    · rw [if_neg hq, if_neg (fun h => hq h.2.2)]
  show Ending.returned (.int .i64 (bits BinOp.and IntKind.i64 (wrap64 (byteAt a (k / 8)) / 2 ^ (7 - k % 8)) 1)) = _
  rw [e]
set_option maxRecDepth 100000 in
set_option maxHeartbeats 4000000 in
theorem qcheck_any (p : Pfx) (w : World) (f : p.addr.length = 16) :
    Calls Try.prog 18 #[p.val] w fun r w' => r = .returned (.int .i64 (if chkP p then 0 else 1)) ∧ Below w.heap.size w w' := by
  have Z := Lib.hid (oneZ_new w p)
  have HF := Lib.hid f
  have HM := Lib.hid (fun W => qmost_any p.six W)
  have HB := Lib.hid (fun n W => qbit_any p.addr n W f)
  have hci := chk_iff p
  rw [show p.val = .agg p.cells from rfl]
  clear f
  by_cases h0 : p.len < 0
  · have e : chkP p = false := by
      cases h : chkP p
      · rfl
      · have := (hci.1 h).1.1; omega
    rw [e]
    clear HM HB hci e
    go_enter Try.func18, Try.ntmps18
    go_wp2_with fail
    refine wp_region_noPanic ?_
    refine wp_region_held_drew (S := OneZ w p) (by kernel_rfl) Z.out.drew (fun hHeld => ?_)
    refine held_take (v := ?v71) 0 rfl (by kernel_rfl) (by kernel_rfl) (by kernel_rfl) (fun _ _ _ h => h) (by rfl) ?y71 (by assumption) ?_
    case y71 => (intro w hSw; unfold OneZ at hSw; go_simp; (try with_reducible rfl); (try omega))
    simp only [List.setIfInBounds_toArray, List.set_cons_zero, List.set_cons_succ]
    refine held_take (v := .int .i64 p.len) 1 rfl (by kernel_rfl) (by kernel_rfl) (by kernel_rfl) (fun _ _ _ h => h) (by rfl) (fun W hSw => exec_load_len (.tmp 4) rfl w.heap.size p HF.out rfl hSw.1) (by assumption) ?_
    simp only [List.setIfInBounds_toArray, List.set_cons_zero, List.set_cons_succ]
    refine held_take (v := ?v76) 2 rfl (by kernel_rfl) (by kernel_rfl) (by kernel_rfl) (fun _ _ _ h => h) (by rfl) ?y76 (by assumption) ?_
    case y76 => (intro w hSw; unfold OneZ at hSw; go_simp; (try with_reducible rfl); (try omega))
    simp only [List.setIfInBounds_toArray, List.set_cons_zero, List.set_cons_succ]
    refine held_take (v := ?v79) 3 rfl (by kernel_rfl) (by kernel_rfl) (by kernel_rfl) (fun _ _ _ h => h) (by rfl) ?y79 (by assumption) ?_
    case y79 => (intro w hSw; unfold OneZ at hSw; go_simp; (try with_reducible rfl); (try omega))
    simp only [List.setIfInBounds_toArray, List.set_cons_zero, List.set_cons_succ]
    refine held_skip 4 rfl (by kernel_rfl) (by kernel_rfl) (by kernel_rfl) (fun _ _ _ h => h) (by rfl) (by assumption) ?_
    simp only [List.setIfInBounds_toArray, List.set_cons_zero, List.set_cons_succ]
    refine held_skip 5 rfl (by kernel_rfl) (by kernel_rfl) (by kernel_rfl) (fun _ _ _ h => h) (by rfl) (by assumption) ?_
    simp only [List.setIfInBounds_toArray, List.set_cons_zero, List.set_cons_succ]
    refine held_skip 6 rfl (by kernel_rfl) (by kernel_rfl) (by kernel_rfl) (fun _ _ _ h => h) (by rfl) (by assumption) ?_
    simp only [List.setIfInBounds_toArray, List.set_cons_zero, List.set_cons_succ]
    refine held_skip 7 rfl (by kernel_rfl) (by kernel_rfl) (by kernel_rfl) (fun _ _ _ h => h) (by rfl) (by assumption) ?_
    simp only [List.setIfInBounds_toArray, List.set_cons_zero, List.set_cons_succ]
    refine held_skip 8 rfl (by kernel_rfl) (by kernel_rfl) (by kernel_rfl) (fun _ _ _ h => h) (by rfl) (by assumption) ?_
    simp only [List.setIfInBounds_toArray, List.set_cons_zero, List.set_cons_succ]
    refine held_skip 9 rfl (by kernel_rfl) (by kernel_rfl) (by kernel_rfl) (fun _ _ _ h => h) (by rfl) (by assumption) ?_
    simp only [List.setIfInBounds_toArray, List.set_cons_zero, List.set_cons_succ]
    refine held_take (v := ?v94) 10 rfl (by kernel_rfl) (by kernel_rfl) (by kernel_rfl) (fun _ _ _ h => h) (by rfl) ?y94 (by assumption) ?_
    case y94 => (intro w hSw; unfold OneZ at hSw; go_simp; (try with_reducible rfl); (try omega))
    simp only [List.setIfInBounds_toArray, List.set_cons_zero, List.set_cons_succ]
    refine wpAnyH_done (by kernel_rfl) ?_ _
    refine NoPanic.normal ?_
    go_wp2
    go_ret
    exact ⟨rfl, Z.out.2.drew⟩
  · by_cases h1 : mostP p.six < p.len
    · have e : chkP p = false := by
        cases h : chkP p
        · rfl
        · have := (hci.1 h).1.2; omega
      rw [e]
      clear HB hci e
      go_enter Try.func18, Try.ntmps18
      go_wp2_with fail
      refine wp_region_noPanic ?_
      refine wp_region_held_drew (S := OneZ w p) (by kernel_rfl) Z.out.drew (fun hHeld => ?_)
      refine held_take (v := ?v113) 0 rfl (by kernel_rfl) (by kernel_rfl) (by kernel_rfl) (fun _ _ _ h => h) (by rfl) ?y113 (by assumption) ?_
      case y113 => (intro w hSw; unfold OneZ at hSw; go_simp; (try with_reducible rfl); (try omega))
      simp only [List.setIfInBounds_toArray, List.set_cons_zero, List.set_cons_succ]
      refine held_take (v := .int .i64 p.len) 1 rfl (by kernel_rfl) (by kernel_rfl) (by kernel_rfl) (fun _ _ _ h => h) (by rfl) (fun W hSw => exec_load_len (.tmp 4) rfl w.heap.size p HF.out rfl hSw.1) (by assumption) ?_
      simp only [List.setIfInBounds_toArray, List.set_cons_zero, List.set_cons_succ]
      refine held_take (v := ?v118) 2 rfl (by kernel_rfl) (by kernel_rfl) (by kernel_rfl) (fun _ _ _ h => h) (by rfl) ?y118 (by assumption) ?_
      case y118 => (intro w hSw; unfold OneZ at hSw; go_simp; (try with_reducible rfl); (try omega))
      simp only [List.setIfInBounds_toArray, List.set_cons_zero, List.set_cons_succ]
      rw [decide_eq_false (show ¬ p.len < 0 by omega)]
      refine held_take (v := ?v122) 3 rfl (by kernel_rfl) (by kernel_rfl) (by kernel_rfl) (fun _ _ _ h => h) (by rfl) ?y122 (by assumption) ?_
      case y122 => (intro w hSw; unfold OneZ at hSw; go_simp; (try with_reducible rfl); (try omega))
      simp only [List.setIfInBounds_toArray, List.set_cons_zero, List.set_cons_succ]
      refine held_take (v := ?v125) 4 rfl (by kernel_rfl) (by kernel_rfl) (by kernel_rfl) (fun _ _ _ h => h) (by rfl) ?y125 (by assumption) ?_
      case y125 => (intro w hSw; unfold OneZ at hSw; go_simp; (try with_reducible rfl); (try omega))
      simp only [List.setIfInBounds_toArray, List.set_cons_zero, List.set_cons_succ]
      refine held_take (v := .int .i64 p.len) 5 rfl (by kernel_rfl) (by kernel_rfl) (by kernel_rfl) (fun _ _ _ h => h) (by rfl) (fun W hSw => exec_load_len (.tmp 8) rfl w.heap.size p HF.out rfl hSw.1) (by assumption) ?_
      simp only [List.setIfInBounds_toArray, List.set_cons_zero, List.set_cons_succ]
      refine held_take (v := ?v130) 6 rfl (by kernel_rfl) (by kernel_rfl) (by kernel_rfl) (fun _ _ _ h => h) (by rfl) ?y130 (by assumption) ?_
      case y130 => (intro w hSw; unfold OneZ at hSw; go_simp; (try with_reducible rfl); (try omega))
      simp only [List.setIfInBounds_toArray, List.set_cons_zero, List.set_cons_succ]
      refine held_take (v := .bool p.six) 7 rfl (by kernel_rfl) (by kernel_rfl) (by kernel_rfl) (fun _ _ _ h => h) (by rfl) (fun W hSw => exec_load_six (.tmp 10) rfl w.heap.size p rfl hSw.1) (by assumption) ?_
      simp only [List.setIfInBounds_toArray, List.set_cons_zero, List.set_cons_succ]
      refine held_one 8 rfl (by kernel_rfl) (by rfl) (fun K hK => ?_)
      go_simp
      refine (HM.out _).mono ?_
      rintro e w1 ⟨rfl, rfl⟩
      refine hK.out _ _ hHeld (fun hHeld => ?_)
      clear hK K
      refine held_take (v := ?v141) 9 rfl (by kernel_rfl) (by kernel_rfl) (by kernel_rfl) (fun _ _ _ h => h) (by rfl) ?y141 (by assumption) ?_
      case y141 => (intro w hSw; unfold OneZ at hSw; go_simp; (try with_reducible rfl); (try omega))
      simp only [List.setIfInBounds_toArray, List.set_cons_zero, List.set_cons_succ]
      (try rw [decide_eq_true (show mostP p.six < p.len by omega)])
      refine held_take (v := ?v145) 10 rfl (by kernel_rfl) (by kernel_rfl) (by kernel_rfl) (fun _ _ _ h => h) (by rfl) ?y145 (by assumption) ?_
      case y145 => (intro w hSw; unfold OneZ at hSw; go_simp; (try with_reducible rfl); (try omega))
      simp only [List.setIfInBounds_toArray, List.set_cons_zero, List.set_cons_succ]
      refine wpAnyH_done (by kernel_rfl) ?_ _
      refine NoPanic.normal ?_
      go_wp2
      go_ret
      exact ⟨rfl, Z.out.2.drew⟩
    · obtain ⟨N, hN⟩ : ∃ N : Nat, p.len = (N : Int) := ⟨p.len.toNat, by omega⟩
      have hm : mostP p.six ≤ 128 := (clamp_le p.six 0).2.2
      have hN2 : N ≤ 128 := by omega
      have HC : Hid (chkP p = true ↔ ∀ i : Nat, i < 128 → N ≤ i → bitL p.addr i = false) := by
        show chkP p = true ↔ ∀ i : Nat, i < 128 → N ≤ i → bitL p.addr i = false
        rw [hci]
        constructor
        · exact fun h i hi hn => h.2 i hi (by omega)
        · exact fun h => ⟨⟨by omega, by omega⟩, fun i hi hn => h i hi (by omega)⟩
      have HN := Lib.hid hN
      generalize hR : (if chkP p = true then (0 : Int) else 1) = R
      have HR := Lib.hid hR
      clear hci hN hm hR
      go_enter Try.func18, Try.ntmps18
      go_wp2_with fail
      refine wp_region_noPanic ?_
      refine wp_region_held_drew (S := OneZ w p) (by kernel_rfl) Z.out.drew (fun hHeld => ?_)
      refine held_take (v := ?v170) 0 rfl (by kernel_rfl) (by kernel_rfl) (by kernel_rfl) (fun _ _ _ h => h) (by rfl) ?y170 (by assumption) ?_
      case y170 => (intro w hSw; unfold OneZ at hSw; go_simp; (try with_reducible rfl); (try omega))
      simp only [List.setIfInBounds_toArray, List.set_cons_zero, List.set_cons_succ]
      refine held_take (v := .int .i64 p.len) 1 rfl (by kernel_rfl) (by kernel_rfl) (by kernel_rfl) (fun _ _ _ h => h) (by rfl) (fun W hSw => exec_load_len (.tmp 4) rfl w.heap.size p HF.out rfl hSw.1) (by assumption) ?_
      simp only [List.setIfInBounds_toArray, List.set_cons_zero, List.set_cons_succ]
      refine held_take (v := ?v175) 2 rfl (by kernel_rfl) (by kernel_rfl) (by kernel_rfl) (fun _ _ _ h => h) (by rfl) ?y175 (by assumption) ?_
      case y175 => (intro w hSw; unfold OneZ at hSw; go_simp; (try with_reducible rfl); (try omega))
      simp only [List.setIfInBounds_toArray, List.set_cons_zero, List.set_cons_succ]
      rw [decide_eq_false (show ¬ p.len < 0 by omega)]
      refine held_take (v := ?v179) 3 rfl (by kernel_rfl) (by kernel_rfl) (by kernel_rfl) (fun _ _ _ h => h) (by rfl) ?y179 (by assumption) ?_
      case y179 => (intro w hSw; unfold OneZ at hSw; go_simp; (try with_reducible rfl); (try omega))
      simp only [List.setIfInBounds_toArray, List.set_cons_zero, List.set_cons_succ]
      refine held_take (v := ?v182) 4 rfl (by kernel_rfl) (by kernel_rfl) (by kernel_rfl) (fun _ _ _ h => h) (by rfl) ?y182 (by assumption) ?_
      case y182 => (intro w hSw; unfold OneZ at hSw; go_simp; (try with_reducible rfl); (try omega))
      simp only [List.setIfInBounds_toArray, List.set_cons_zero, List.set_cons_succ]
      refine held_take (v := .int .i64 p.len) 5 rfl (by kernel_rfl) (by kernel_rfl) (by kernel_rfl) (fun _ _ _ h => h) (by rfl) (fun W hSw => exec_load_len (.tmp 8) rfl w.heap.size p HF.out rfl hSw.1) (by assumption) ?_
      simp only [List.setIfInBounds_toArray, List.set_cons_zero, List.set_cons_succ]
      refine held_take (v := ?v187) 6 rfl (by kernel_rfl) (by kernel_rfl) (by kernel_rfl) (fun _ _ _ h => h) (by rfl) ?y187 (by assumption) ?_
      case y187 => (intro w hSw; unfold OneZ at hSw; go_simp; (try with_reducible rfl); (try omega))
      simp only [List.setIfInBounds_toArray, List.set_cons_zero, List.set_cons_succ]
      refine held_take (v := .bool p.six) 7 rfl (by kernel_rfl) (by kernel_rfl) (by kernel_rfl) (fun _ _ _ h => h) (by rfl) (fun W hSw => exec_load_six (.tmp 10) rfl w.heap.size p rfl hSw.1) (by assumption) ?_
      simp only [List.setIfInBounds_toArray, List.set_cons_zero, List.set_cons_succ]
      refine held_one 8 rfl (by kernel_rfl) (by rfl) (fun K hK => ?_)
      go_simp
      refine (HM.out _).mono ?_
      rintro e w1 ⟨rfl, rfl⟩
      refine hK.out _ _ hHeld (fun hHeld => ?_)
      clear hK K
      refine held_take (v := ?v198) 9 rfl (by kernel_rfl) (by kernel_rfl) (by kernel_rfl) (fun _ _ _ h => h) (by rfl) ?y198 (by assumption) ?_
      case y198 => (intro w hSw; unfold OneZ at hSw; go_simp; (try with_reducible rfl); (try omega))
      simp only [List.setIfInBounds_toArray, List.set_cons_zero, List.set_cons_succ]
      rw [decide_eq_false (show ¬ mostP p.six < p.len by omega)]
      refine held_take (v := ?v202) 10 rfl (by kernel_rfl) (by kernel_rfl) (by kernel_rfl) (fun _ _ _ h => h) (by rfl) ?y202 (by assumption) ?_
      case y202 => (intro w hSw; unfold OneZ at hSw; go_simp; (try with_reducible rfl); (try omega))
      simp only [List.setIfInBounds_toArray, List.set_cons_zero, List.set_cons_succ]
      refine wpAnyH_done (by kernel_rfl) ?_ _
      refine NoPanic.normal ?_
      have Z1 := Lib.hid hHeld
      have c1 := Z1.out.1.len HF.out
      rw [HN.out] at c1 ⊢
      clear hHeld Z HM h0 h1
      go_wp2
      go_loopw [3] (fun i wr => ∃ n : Nat, n ≤ 128 ∧ N ≤ n ∧ i = .int .i64 (n : Int) ∧ (∀ j : Nat, j < n → N ≤ j → bitL p.addr j = false) ∧ OneZ w p wr) (fun i _ => 128 - (intOf i).toNat)
      case atStart => exact ⟨N, hN2, Nat.le_refl _, rfl, fun j h1 h2 => by omega, Z1.out⟩
      case round =>
        obtain ⟨n, hn, hNn, rfl, hbits, hz⟩ := hrel
        clear Z1 c1
        have HZ := Lib.hid hz
        have HBn := Lib.hid (fun W => HB.out (n : Int) W)
        have HBits := Lib.hid hbits
        clear hz hbits
        by_cases hlt : n < 128
        · have hlt2 : (n : Int) < 128 := by omega
          have hbv := bitI_nat p.addr n hlt
          cases hb : bitL p.addr n
          · rw [hb, if_neg (by simp)] at hbv
            rw [hbv] at HBn
            have HB0 := Lib.hid hb
            clear hb hbv
            go_wp2_with (first | (refine wpList_load_arrR rfl (.tmp 21) rfl w.heap.size 1 p.addr HF.out rfl HZ.out.1.range ?_) | (go_at_call 30; refine (HBn.out _).mono ?_; rintro e w2 ⟨rfl, b2⟩))
            go_roundw
            case rel => exact ⟨n + 1, by omega, by omega, by go_num, fun j h1 h2 => by
              by_cases hj : j = n
              · subst hj; exact HB0.out
              · exact HBits.out j (by omega) h2, HZ.out.up b2⟩
            case measure => simp [intOf]; omega
          · rw [hb, if_pos rfl] at hbv
            rw [hbv] at HBn
            have HV : Hid (chkP p = false) := by
              cases h : chkP p
              · exact rfl
              · have := HC.out.1 h n hlt hNn
                rw [hb] at this
                cases this
            clear hb hbv
            go_wp2_with (first | (refine wpList_load_arrR rfl (.tmp 21) rfl w.heap.size 1 p.addr HF.out rfl HZ.out.1.range ?_) | (go_at_call 30; refine (HBn.out _).mono ?_; rintro e w2 ⟨rfl, b2⟩))
            go_ret
            exact ⟨by rw [← HR.out, HV.out]; rfl, (HZ.out.up b2).2⟩
        · have h128 : n = 128 := by omega
          subst h128
          have HV : Hid (chkP p = true) := HC.out.2 (fun i hi hn => HBits.out i hi hn)
          go_wp2
          go_ret
          exact ⟨by rw [← HR.out, HV.out]; rfl, HZ.out.2⟩
/-! One bit more. -/
theorem maskL_zero (l : List UInt8) : maskL l 0 = List.replicate 16 0 := by
  refine addr_ext (maskL_length _ _) (by simp) fun i hi => ?_
  rw [maskL_bit l 0 i hi, decide_eq_false (by omega), Bool.false_and]
  unfold bitL
  have : (List.replicate 16 (0 : UInt8)).getD (i / 8) 0 = 0 := by
    rw [List.getD, List.getElem?_replicate]
    split <;> rfl
  rw [this]
  simp
theorem mask_step0 (l : List UInt8) (n : Nat) (h : bitL l n = false) : maskL l (n + 1) = maskL l n := by
  refine addr_ext (maskL_length _ _) (maskL_length _ _) fun i hi => ?_
  rw [maskL_bit _ _ i hi, maskL_bit _ _ i hi]
  by_cases he : i = n
  · subst he; rw [h]; simp
  · congr 1
    apply decide_eq_decide.2
    omega
theorem add_bit : ∀ (j : Fin 8) (y : Fin 256), y.val.testBit (7 - j.val) = true → y.val / 2 ^ (8 - (j.val + 1)) * 2 ^ (8 - (j.val + 1)) = y.val / 2 ^ (8 - j.val) * 2 ^ (8 - j.val) + 128 / 2 ^ j.val := by decide +kernel
theorem mask_step1 (l : List UInt8) (n : Nat) (hn : n < 128) (h : bitL l n = true) :
    ((maskL l n).getD (n / 8) 0).toNat + 128 / 2 ^ (n % 8) < 256 ∧ maskL l (n + 1) = (maskL l n).set (n / 8) (UInt8.ofNat (((maskL l n).getD (n / 8) 0).toNat + 128 / 2 ^ (n % 8))) := by
  have hat : ∀ m k : Nat, k < 16 → (maskL l m).getD k 0 = maskB (l.getD k 0) (min 8 (m - 8 * k)) := fun m k hk => by
    rw [List.getD, maskL_at l m k hk]
    rfl
  have h1 := add_bit ⟨n % 8, by omega⟩ ⟨(l.getD (n / 8) 0).toNat, UInt8.toNat_lt _⟩ h
  have e1 : (maskB (l.getD (n / 8) 0) (min 8 (n + 1 - 8 * (n / 8)))).toNat = (maskB (l.getD (n / 8) 0) (min 8 (n - 8 * (n / 8)))).toNat + 128 / 2 ^ (n % 8) := by
    rw [maskB_toNat, maskB_toNat, show min 8 (n + 1 - 8 * (n / 8)) = n % 8 + 1 by omega, show min 8 (n - 8 * (n / 8)) = n % 8 by omega]
    exact h1
  have hlt := UInt8.toNat_lt (maskB (l.getD (n / 8) 0) (min 8 (n + 1 - 8 * (n / 8))))
  rw [hat n (n / 8) (by omega)]
  refine ⟨by omega, ?_⟩
  apply List.ext_getElem?
  intro k
  rw [List.getElem?_set, maskL_length]
  by_cases hk : n / 8 = k
  · subst hk
    rw [if_pos rfl, if_pos (by omega), maskL_at l _ _ (by omega)]
    congr 1
    apply UInt8.toNat.inj
    rw [e1, UInt8.toNat_ofNat_of_lt' (show _ < 256 by omega)]
  · rw [if_neg hk]
    by_cases h16 : k < 16
    · rw [maskL_at l _ k h16, maskL_at l _ k h16, show min 8 (n + 1 - 8 * k) = min 8 (n - 8 * k) by omega]
    · rw [List.getElem?_eq_none (by rw [maskL_length]; omega), List.getElem?_eq_none (by rw [maskL_length]; omega)]
theorem wpList_min2 {ops : Array Oper} {rest : List Oper} {o : Oper} {a : Act} {w : World} {Q : Exit → Act → World → Prop} (hgd : o.guard = none) (x y : Operand) (ats : Array TypeId) (ho : o.op = .call { callee := .builtin .min, args := #[x, y], argTypes := ats }) (m n r : Int) (hx : a.eval x = .int .i64 m) (hy : a.eval y = .int .i64 n)
    (hr : ∀ ts t W, (Builtin.min_ ts t #[.int .i64 m, .int .i64 n]).run Try.prog W = .ok (.int .i64 r) W) (hR : wpList Try.prog ops Q rest (a.put o.dst (.int .i64 r)) w) : wpList Try.prog ops Q (o :: rest) a w :=
  wpList_plain hgd fun K hK => by
    have hrun := hr ats o.type w
    unfold Oper.wp
    simp [execOp, ho, resolve, invoke, builtin, hx, hy, hrun, Result.andThen]
    exact hK _ _ hR
theorem sz2 (w : World) (o u : Obj) : ((w.alloc o).alloc u).heap.size = w.heap.size + 1 + 1 := by rw [World.size_alloc, World.size_alloc]
/-- The boxes of Of: the address, the result, the prefix as far as it is made. -/
def QofZ (w : World) (l : List UInt8) (p : Pfx) (W : World) : Prop := ArrT 30 W w.heap.size l ∧ PfxT W (w.heap.size + 1) zeroP ∧ PfxT W (w.heap.size + 1 + 1) p ∧ Below w.heap.size w W
theorem QofZ.up {w : World} {l : List UInt8} {p : Pfx} {W W' : World} (h : QofZ w l p W) (hb : Below W.heap.size W W') : QofZ w l p W' := ⟨h.1.up hb, h.2.1.up hb, h.2.2.1.up hb, below_up h.2.2.2 hb h.2.2.2.size⟩
theorem clamp_in2 (s : Bool) (n : Int) : ∃ N : Nat, N ≤ 128 ∧ min (max n 0) (mostP s) = (N : Int) ∧ ∀ l, ofP s l n = ⟨s, maskL l N, (N : Int)⟩ := by
  obtain ⟨N, h1, h2, h3⟩ := clamp_in s n
  refine ⟨N, h1, ?_, h3⟩
  rw [← h2]
  have : 0 ≤ mostP s := by unfold mostP; cases s <;> simp
  omega
end Go.Proofs.Ytecefdocemkliaa

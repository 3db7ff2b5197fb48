/- The document's prefixes: Bit, most, Check, Of. The document's prefixes: Has, Covers, Common, Compare. -/
import Derived.Test.YtgimcapcnidjjaaPreB
import Derived.BigQuiet
namespace Go.Proofs.Ytgimcapcnidjjaa
open Go Go.RowKit

theorem qmost_any (b : Bool) (w : World) : Calls Try.prog 50 #[.bool b] w fun e w' => e = .returned (.int .i64 (mostP b)) ∧ w' = w := by
  cases b <;> (go_enter Try.func50, Try.ntmps50; go_wp2; go_ret; exact ⟨rfl, rfl⟩)
theorem bit_table2 : ∀ (j : Fin 8) (x : Fin 256), bits BinOp.and IntKind.i64 (wrap64 (x.val : Int) / 2 ^ (7 - j.val)) 1 = if x.val.testBit (7 - j.val) = true then 1 else 0 := by decide +kernel
set_option maxRecDepth 100000 in
set_option maxHeartbeats 4000000 in
theorem qbit_any (a : List UInt8) (i : Int) (w : World) (ha : a.length = 16) :
    Calls Try.prog 51 #[arrV a, .int .i64 i] w fun r w' => r = .returned (.int .i64 (bitI a i)) ∧ Below w.heap.size w w' := by
  have hb : Below w.heap.size w (w.alloc (.cells (byteVals a).toArray 23)) := (Below.refl _ _).alloc (Nat.le_refl _) _
  have HB := Lib.hid hb
  rw [show arrV a = .agg (byteVals a).toArray from rfl]
  clear hb
  by_cases h0 : i < 0
  · have e : bitI a i = 0 := by unfold bitI; rw [if_neg (by omega)]
    rw [e]
    clear ha
    go_enter Try.func51, Try.ntmps51
    go_wp2
    go_ret
    exact ⟨rfl, HB.out⟩
  by_cases h1 : 127 < i
  · have e : bitI a i = 0 := by unfold bitI; rw [if_neg (by omega)]
    rw [e]
    clear ha
    go_enter Try.func51, Try.ntmps51
    go_wp2
    go_ret
    exact ⟨rfl, HB.out⟩
  obtain ⟨k, rfl⟩ : ∃ k : Nat, i = (k : Int) := ⟨i.toNat, by omega⟩
  have hk : k < 128 := by omega
  have c := (arrT_new (t := 23) w a).cell (k / 8) (by omega)
  go_enter Try.func51, Try.ntmps51
  go_wp2
  go_ret
  refine ⟨?_, HB.out⟩
  have e : bits BinOp.and IntKind.i64 (wrap64 (byteAt a (k / 8)) / 2 ^ (7 - k % 8)) 1 = bitI a (k : Int) := by
    have := bit_table2 ⟨k % 8, by omega⟩ ⟨(a.getD (k / 8) 0).toNat, UInt8.toNat_lt _⟩
    refine this.trans ?_
    unfold bitI bitL
    rw [Int.toNat_natCast]
    by_cases hq : (a.getD (k / 8) 0).toNat.testBit (7 - k % 8) = true
    · rw [if_pos hq, if_pos ⟨by omega, by omega, hq⟩]
    · rw [if_neg hq, if_neg (fun h => hq h.2.2)]
  show Ending.returned (.int .i64 (bits BinOp.and IntKind.i64 (wrap64 (byteAt a (k / 8)) / 2 ^ (7 - k % 8)) 1)) = _
  rw [e]
set_option maxRecDepth 100000 in
set_option maxHeartbeats 4000000 in
theorem qcheck_any (p : Pfx) (w : World) (f : p.addr.length = 16) :
    Calls Try.prog 26 #[p.val] w fun r w' => r = .returned (.int .i64 (if chkP p then 0 else 1)) ∧ Below w.heap.size w w' := by
  have Z := Lib.hid (oneZ_new w p)
  have HF := Lib.hid f
  have HM := Lib.hid (fun W => qmost_any p.six W)
  have HB := Lib.hid (fun n W => qbit_any p.addr n W f)
  have hci := chk_iff p
  rw [show p.val = .agg p.cells from rfl]
  clear f
  by_cases h0 : p.len < 0
  · have e : chkP p = false := by
      cases h : chkP p
      · rfl
      · have := (hci.1 h).1.1; omega
    rw [e]
    clear HM HB hci e
    go_enter Try.func26, Try.ntmps26
    go_wp2_with fail
    refine wp_region_noPanic ?_
    refine wp_region_held_drew (S := OneZ w p) (by kernel_rfl) Z.out.drew (fun hHeld => ?_)
    refine held_take (v := ?v72) 0 rfl (by kernel_rfl) (by kernel_rfl) (by kernel_rfl) (fun _ _ _ h => h) (by rfl) ?y72 (by assumption) ?_
    case y72 => (intro w hSw; unfold OneZ at hSw; go_simp; (try with_reducible rfl); (try omega))
    simp only [List.setIfInBounds_toArray, List.set_cons_zero, List.set_cons_succ]
    refine held_take (v := .int .i64 p.len) 1 rfl (by kernel_rfl) (by kernel_rfl) (by kernel_rfl) (fun _ _ _ h => h) (by rfl) (fun W hSw => exec_load_len (.tmp 4) rfl w.heap.size p HF.out rfl hSw.1) (by assumption) ?_
    simp only [List.setIfInBounds_toArray, List.set_cons_zero, List.set_cons_succ]
    refine held_take (v := ?v77) 2 rfl (by kernel_rfl) (by kernel_rfl) (by kernel_rfl) (fun _ _ _ h => h) (by rfl) ?y77 (by assumption) ?_
    case y77 => (intro w hSw; unfold OneZ at hSw; go_simp; (try with_reducible rfl); (try omega))
    simp only [List.setIfInBounds_toArray, List.set_cons_zero, List.set_cons_succ]
    refine held_take (v := ?v80) 3 rfl (by kernel_rfl) (by kernel_rfl) (by kernel_rfl) (fun _ _ _ h => h) (by rfl) ?y80 (by assumption) ?_
    case y80 => (intro w hSw; unfold OneZ at hSw; go_simp; (try with_reducible rfl); (try omega))
    simp only [List.setIfInBounds_toArray, List.set_cons_zero, List.set_cons_succ]
    refine held_skip 4 rfl (by kernel_rfl) (by kernel_rfl) (by kernel_rfl) (fun _ _ _ h => h) (by rfl) (by assumption) ?_
    simp only [List.setIfInBounds_toArray, List.set_cons_zero, List.set_cons_succ]
    refine held_skip 5 rfl (by kernel_rfl) (by kernel_rfl) (by kernel_rfl) (fun _ _ _ h => h) (by rfl) (by assumption) ?_
    simp only [List.setIfInBounds_toArray, List.set_cons_zero, List.set_cons_succ]
    refine held_skip 6 rfl (by kernel_rfl) (by kernel_rfl) (by kernel_rfl) (fun _ _ _ h => h) (by rfl) (by assumption) ?_
    simp only [List.setIfInBounds_toArray, List.set_cons_zero, List.set_cons_succ]
    refine held_skip 7 rfl (by kernel_rfl) (by kernel_rfl) (by kernel_rfl) (fun _ _ _ h => h) (by rfl) (by assumption) ?_
    simp only [List.setIfInBounds_toArray, List.set_cons_zero, List.set_cons_succ]
    refine held_skip 8 rfl (by kernel_rfl) (by kernel_rfl) (by kernel_rfl) (fun _ _ _ h => h) (by rfl) (by assumption) ?_
    simp only [List.setIfInBounds_toArray, List.set_cons_zero, List.set_cons_succ]
    refine held_skip 9 rfl (by kernel_rfl) (by kernel_rfl) (by kernel_rfl) (fun _ _ _ h => h) (by rfl) (by assumption) ?_
    simp only [List.setIfInBounds_toArray, List.set_cons_zero, List.set_cons_succ]
    refine held_take (v := ?v95) 10 rfl (by kernel_rfl) (by kernel_rfl) (by kernel_rfl) (fun _ _ _ h => h) (by rfl) ?y95 (by assumption) ?_
    case y95 => (intro w hSw; unfold OneZ at hSw; go_simp; (try with_reducible rfl); (try omega))
    simp only [List.setIfInBounds_toArray, List.set_cons_zero, List.set_cons_succ]
    refine wpAnyH_done (by kernel_rfl) ?_ _
    refine NoPanic.normal ?_
    go_wp2
    go_ret
    exact ⟨rfl, Z.out.2.drew⟩
  · by_cases h1 : mostP p.six < p.len
    · have e : chkP p = false := by
        cases h : chkP p
        · rfl
        · have := (hci.1 h).1.2; omega
      rw [e]
      clear HB hci e
      go_enter Try.func26, Try.ntmps26
      go_wp2_with fail
      refine wp_region_noPanic ?_
      refine wp_region_held_drew (S := OneZ w p) (by kernel_rfl) Z.out.drew (fun hHeld => ?_)
      refine held_take (v := ?v114) 0 rfl (by kernel_rfl) (by kernel_rfl) (by kernel_rfl) (fun _ _ _ h => h) (by rfl) ?y114 (by assumption) ?_
      case y114 => (intro w hSw; unfold OneZ at hSw; go_simp; (try with_reducible rfl); (try omega))
      simp only [List.setIfInBounds_toArray, List.set_cons_zero, List.set_cons_succ]
      refine held_take (v := .int .i64 p.len) 1 rfl (by kernel_rfl) (by kernel_rfl) (by kernel_rfl) (fun _ _ _ h => h) (by rfl) (fun W hSw => exec_load_len (.tmp 4) rfl w.heap.size p HF.out rfl hSw.1) (by assumption) ?_
      simp only [List.setIfInBounds_toArray, List.set_cons_zero, List.set_cons_succ]
      refine held_take (v := ?v119) 2 rfl (by kernel_rfl) (by kernel_rfl) (by kernel_rfl) (fun _ _ _ h => h) (by rfl) ?y119 (by assumption) ?_
      case y119 => (intro w hSw; unfold OneZ at hSw; go_simp; (try with_reducible rfl); (try omega))
      simp only [List.setIfInBounds_toArray, List.set_cons_zero, List.set_cons_succ]
      rw [decide_eq_false (show ¬ p.len < 0 by omega)]
      refine held_take (v := ?v123) 3 rfl (by kernel_rfl) (by kernel_rfl) (by kernel_rfl) (fun _ _ _ h => h) (by rfl) ?y123 (by assumption) ?_
      case y123 => (intro w hSw; unfold OneZ at hSw; go_simp; (try with_reducible rfl); (try omega))
      simp only [List.setIfInBounds_toArray, List.set_cons_zero, List.set_cons_succ]
      refine held_take (v := ?v126) 4 rfl (by kernel_rfl) (by kernel_rfl) (by kernel_rfl) (fun _ _ _ h => h) (by rfl) ?y126 (by assumption) ?_
      case y126 => (intro w hSw; unfold OneZ at hSw; go_simp; (try with_reducible rfl); (try omega))
      simp only [List.setIfInBounds_toArray, List.set_cons_zero, List.set_cons_succ]
      refine held_take (v := .int .i64 p.len) 5 rfl (by kernel_rfl) (by kernel_rfl) (by kernel_rfl) (fun _ _ _ h => h) (by rfl) (fun W hSw => exec_load_len (.tmp 8) rfl w.heap.size p HF.out rfl hSw.1) (by assumption) ?_
      simp only [List.setIfInBounds_toArray, List.set_cons_zero, List.set_cons_succ]
      refine held_take (v := ?v131) 6 rfl (by kernel_rfl) (by kernel_rfl) (by kernel_rfl) (fun _ _ _ h => h) (by rfl) ?y131 (by assumption) ?_
      case y131 => (intro w hSw; unfold OneZ at hSw; go_simp; (try with_reducible rfl); (try omega))
      simp only [List.setIfInBounds_toArray, List.set_cons_zero, List.set_cons_succ]
      refine held_take (v := .bool p.six) 7 rfl (by kernel_rfl) (by kernel_rfl) (by kernel_rfl) (fun _ _ _ h => h) (by rfl) (fun W hSw => exec_load_six (.tmp 10) rfl w.heap.size p rfl hSw.1) (by assumption) ?_
      simp only [List.setIfInBounds_toArray, List.set_cons_zero, List.set_cons_succ]
      refine held_one 8 rfl (by kernel_rfl) (by rfl) (fun K hK => ?_)
      go_simp
      refine (HM.out _).mono ?_
      rintro e w1 ⟨rfl, rfl⟩
      refine hK.out _ _ hHeld (fun hHeld => ?_)
      clear hK K
      refine held_take (v := ?v142) 9 rfl (by kernel_rfl) (by kernel_rfl) (by kernel_rfl) (fun _ _ _ h => h) (by rfl) ?y142 (by assumption) ?_
      case y142 => (intro w hSw; unfold OneZ at hSw; go_simp; (try with_reducible rfl); (try omega))
      simp only [List.setIfInBounds_toArray, List.set_cons_zero, List.set_cons_succ]
      (try rw [decide_eq_true (show mostP p.six < p.len by omega)])
      refine held_take (v := ?v146) 10 rfl (by kernel_rfl) (by kernel_rfl) (by kernel_rfl) (fun _ _ _ h => h) (by rfl) ?y146 (by assumption) ?_
      case y146 => (intro w hSw; unfold OneZ at hSw; go_simp; (try with_reducible rfl); (try omega))
      simp only [List.setIfInBounds_toArray, List.set_cons_zero, List.set_cons_succ]
      refine wpAnyH_done (by kernel_rfl) ?_ _
      refine NoPanic.normal ?_
      go_wp2
      go_ret
      exact ⟨rfl, Z.out.2.drew⟩
    · obtain ⟨N, hN⟩ : ∃ N : Nat, p.len = (N : Int) := ⟨p.len.toNat, by omega⟩
      have hm : mostP p.six ≤ 128 := (clamp_le p.six 0).2.2
      have hN2 : N ≤ 128 := by omega
      have HC : Hid (chkP p = true ↔ ∀ i : Nat, i < 128 → N ≤ i → bitL p.addr i = false) := by
        show chkP p = true ↔ ∀ i : Nat, i < 128 → N ≤ i → bitL p.addr i = false
        rw [hci]
        constructor
        · exact fun h i hi hn => h.2 i hi (by omega)
        · exact fun h => ⟨⟨by omega, by omega⟩, fun i hi hn => h i hi (by omega)⟩
      have HN := Lib.hid hN
      generalize hR : (if chkP p = true then (0 : Int) else 1) = R
      have HR := Lib.hid hR
      clear hci hN hm hR
      go_enter Try.func26, Try.ntmps26
      go_wp2_with fail
      refine wp_region_noPanic ?_
      refine wp_region_held_drew (S := OneZ w p) (by kernel_rfl) Z.out.drew (fun hHeld => ?_)
      refine held_take (v := ?v171) 0 rfl (by kernel_rfl) (by kernel_rfl) (by kernel_rfl) (fun _ _ _ h => h) (by rfl) ?y171 (by assumption) ?_
      case y171 => (intro w hSw; unfold OneZ at hSw; go_simp; (try with_reducible rfl); (try omega))
      simp only [List.setIfInBounds_toArray, List.set_cons_zero, List.set_cons_succ]
      refine held_take (v := .int .i64 p.len) 1 rfl (by kernel_rfl) (by kernel_rfl) (by kernel_rfl) (fun _ _ _ h => h) (by rfl) (fun W hSw => exec_load_len (.tmp 4) rfl w.heap.size p HF.out rfl hSw.1) (by assumption) ?_
      simp only [List.setIfInBounds_toArray, List.set_cons_zero, List.set_cons_succ]
      refine held_take (v := ?v176) 2 rfl (by kernel_rfl) (by kernel_rfl) (by kernel_rfl) (fun _ _ _ h => h) (by rfl) ?y176 (by assumption) ?_
      case y176 => (intro w hSw; unfold OneZ at hSw; go_simp; (try with_reducible rfl); (try omega))
      simp only [List.setIfInBounds_toArray, List.set_cons_zero, List.set_cons_succ]
      rw [decide_eq_false (show ¬ p.len < 0 by omega)]
      refine held_take (v := ?v180) 3 rfl (by kernel_rfl) (by kernel_rfl) (by kernel_rfl) (fun _ _ _ h => h) (by rfl) ?y180 (by assumption) ?_
      case y180 => (intro w hSw; unfold OneZ at hSw; go_simp; (try with_reducible rfl); (try omega))
      simp only [List.setIfInBounds_toArray, List.set_cons_zero, List.set_cons_succ]
      refine held_take (v := ?v183) 4 rfl (by kernel_rfl) (by kernel_rfl) (by kernel_rfl) (fun _ _ _ h => h) (by rfl) ?y183 (by assumption) ?_
      case y183 => (intro w hSw; unfold OneZ at hSw; go_simp; (try with_reducible rfl); (try omega))
      simp only [List.setIfInBounds_toArray, List.set_cons_zero, List.set_cons_succ]
      refine held_take (v := .int .i64 p.len) 5 rfl (by kernel_rfl) (by kernel_rfl) (by kernel_rfl) (fun _ _ _ h => h) (by rfl) (fun W hSw => exec_load_len (.tmp 8) rfl w.heap.size p HF.out rfl hSw.1) (by assumption) ?_
      simp only [List.setIfInBounds_toArray, List.set_cons_zero, List.set_cons_succ]
      refine held_take (v := ?v188) 6 rfl (by kernel_rfl) (by kernel_rfl) (by kernel_rfl) (fun _ _ _ h => h) (by rfl) ?y188 (by assumption) ?_
      case y188 => (intro w hSw; unfold OneZ at hSw; go_simp; (try with_reducible rfl); (try omega))
      simp only [List.setIfInBounds_toArray, List.set_cons_zero, List.set_cons_succ]
      refine held_take (v := .bool p.six) 7 rfl (by kernel_rfl) (by kernel_rfl) (by kernel_rfl) (fun _ _ _ h => h) (by rfl) (fun W hSw => exec_load_six (.tmp 10) rfl w.heap.size p rfl hSw.1) (by assumption) ?_
      simp only [List.setIfInBounds_toArray, List.set_cons_zero, List.set_cons_succ]
      refine held_one 8 rfl (by kernel_rfl) (by rfl) (fun K hK => ?_)
      go_simp
      refine (HM.out _).mono ?_
      rintro e w1 ⟨rfl, rfl⟩
      refine hK.out _ _ hHeld (fun hHeld => ?_)
      clear hK K
      refine held_take (v := ?v199) 9 rfl (by kernel_rfl) (by kernel_rfl) (by kernel_rfl) (fun _ _ _ h => h) (by rfl) ?y199 (by assumption) ?_
      case y199 => (intro w hSw; unfold OneZ at hSw; go_simp; (try with_reducible rfl); (try omega))
      simp only [List.setIfInBounds_toArray, List.set_cons_zero, List.set_cons_succ]
      rw [decide_eq_false (show ¬ mostP p.six < p.len by omega)]
      refine held_take (v := ?v203) 10 rfl (by kernel_rfl) (by kernel_rfl) (by kernel_rfl) (fun _ _ _ h => h) (by rfl) ?y203 (by assumption) ?_
      case y203 => (intro w hSw; unfold OneZ at hSw; go_simp; (try with_reducible rfl); (try omega))
      simp only [List.setIfInBounds_toArray, List.set_cons_zero, List.set_cons_succ]
      refine wpAnyH_done (by kernel_rfl) ?_ _
      refine NoPanic.normal ?_
      have Z1 := Lib.hid hHeld
      have c1 := Z1.out.1.len HF.out
      rw [HN.out] at c1 ⊢
      clear hHeld Z HM h0 h1
      go_wp2
      go_loopw [3] (fun i wr => ∃ n : Nat, n ≤ 128 ∧ N ≤ n ∧ i = .int .i64 (n : Int) ∧ (∀ j : Nat, j < n → N ≤ j → bitL p.addr j = false) ∧ OneZ w p wr) (fun i _ => 128 - (intOf i).toNat)
      case atStart => exact ⟨N, hN2, Nat.le_refl _, rfl, fun j h1 h2 => by omega, Z1.out⟩
      case round =>
        obtain ⟨n, hn, hNn, rfl, hbits, hz⟩ := hrel
        clear Z1 c1
        have HZ := Lib.hid hz
        have HBn := Lib.hid (fun W => HB.out (n : Int) W)
        have HBits := Lib.hid hbits
        clear hz hbits
        by_cases hlt : n < 128
        · have hlt2 : (n : Int) < 128 := by omega
          have hbv := bitI_nat p.addr n hlt
          cases hb : bitL p.addr n
          · rw [hb, if_neg (by simp)] at hbv
            rw [hbv] at HBn
            have HB0 := Lib.hid hb
            clear hb hbv
            go_wp2_with (first | (refine wpList_load_arrR rfl (.tmp 21) rfl w.heap.size 1 p.addr HF.out rfl HZ.out.1.range ?_) | (go_at_call 51; refine (HBn.out _).mono ?_; rintro e w2 ⟨rfl, b2⟩))
            go_roundw
            case rel => exact ⟨n + 1, by omega, by omega, by go_num, fun j h1 h2 => by
              by_cases hj : j = n
              · subst hj; exact HB0.out
              · exact HBits.out j (by omega) h2, HZ.out.up b2⟩
            case measure => simp [intOf]; omega
          · rw [hb, if_pos rfl] at hbv
            rw [hbv] at HBn
            have HV : Hid (chkP p = false) := by
              cases h : chkP p
              · exact rfl
              · have := HC.out.1 h n hlt hNn
                rw [hb] at this
                cases this
            clear hb hbv
            go_wp2_with (first | (refine wpList_load_arrR rfl (.tmp 21) rfl w.heap.size 1 p.addr HF.out rfl HZ.out.1.range ?_) | (go_at_call 51; refine (HBn.out _).mono ?_; rintro e w2 ⟨rfl, b2⟩))
            go_ret
            exact ⟨by rw [← HR.out, HV.out]; rfl, (HZ.out.up b2).2⟩
        · have h128 : n = 128 := by omega
          subst h128
          have HV : Hid (chkP p = true) := HC.out.2 (fun i hi hn => HBits.out i hi hn)
          go_wp2
          go_ret
          exact ⟨by rw [← HR.out, HV.out]; rfl, HZ.out.2⟩
/-! One bit more. -/
theorem maskL_zero (l : List UInt8) : maskL l 0 = List.replicate 16 0 := by
  refine addr_ext (maskL_length _ _) (by simp) fun i hi => ?_
  rw [maskL_bit l 0 i hi, decide_eq_false (by omega), Bool.false_and]
  unfold bitL
  have : (List.replicate 16 (0 : UInt8)).getD (i / 8) 0 = 0 := by
    rw [List.getD, List.getElem?_replicate]
    split <;> rfl
  rw [this]
  simp
theorem mask_step0 (l : List UInt8) (n : Nat) (h : bitL l n = false) : maskL l (n + 1) = maskL l n := by
  refine addr_ext (maskL_length _ _) (maskL_length _ _) fun i hi => ?_
  rw [maskL_bit _ _ i hi, maskL_bit _ _ i hi]
  by_cases he : i = n
  · subst he; rw [h]; simp
  · congr 1
    apply decide_eq_decide.2
    omega
theorem add_bit : ∀ (j : Fin 8) (y : Fin 256), y.val.testBit (7 - j.val) = true → y.val / 2 ^ (8 - (j.val + 1)) * 2 ^ (8 - (j.val + 1)) = y.val / 2 ^ (8 - j.val) * 2 ^ (8 - j.val) + 128 / 2 ^ j.val := by decide +kernel
theorem mask_step1 (l : List UInt8) (n : Nat) (hn : n < 128) (h : bitL l n = true) :
    ((maskL l n).getD (n / 8) 0).toNat + 128 / 2 ^ (n % 8) < 256 ∧ maskL l (n + 1) = (maskL l n).set (n / 8) (UInt8.ofNat (((maskL l n).getD (n / 8) 0).toNat + 128 / 2 ^ (n % 8))) := by
  have hat : ∀ m k : Nat, k < 16 → (maskL l m).getD k 0 = maskB (l.getD k 0) (min 8 (m - 8 * k)) := fun m k hk => by
    rw [List.getD, maskL_at l m k hk]
    rfl
  have h1 := add_bit ⟨n % 8, by omega⟩ ⟨(l.getD (n / 8) 0).toNat, UInt8.toNat_lt _⟩ h
  have e1 : (maskB (l.getD (n / 8) 0) (min 8 (n + 1 - 8 * (n / 8)))).toNat = (maskB (l.getD (n / 8) 0) (min 8 (n - 8 * (n / 8)))).toNat + 128 / 2 ^ (n % 8) := by
    rw [maskB_toNat, maskB_toNat, show min 8 (n + 1 - 8 * (n / 8)) = n % 8 + 1 by omega, show min 8 (n - 8 * (n / 8)) = n % 8 by omega]
    exact h1
  have hlt := UInt8.toNat_lt (maskB (l.getD (n / 8) 0) (min 8 (n + 1 - 8 * (n / 8))))
  rw [hat n (n / 8) (by omega)]
  refine ⟨by omega, ?_⟩
  apply List.ext_getElem?
  intro k
  rw [List.getElem?_set, maskL_length]
  by_cases hk : n / 8 = k
  · subst hk
    rw [if_pos rfl, if_pos (by omega), maskL_at l _ _ (by omega)]
    congr 1
    apply UInt8.toNat.inj
    rw [e1, UInt8.toNat_ofNat_of_lt' (show _ < 256 by omega)]
  · rw [if_neg hk]
    by_cases h16 : k < 16
    · rw [maskL_at l _ k h16, maskL_at l _ k h16, show min 8 (n + 1 - 8 * k) = min 8 (n - 8 * k) by omega]
    · rw [List.getElem?_eq_none (by rw [maskL_length]; omega), List.getElem?_eq_none (by rw [maskL_length]; omega)]
theorem wpList_min2 {ops : Array Oper} {rest : List Oper} {o : Oper} {a : Act} {w : World} {Q : Exit → Act → World → Prop} (hgd : o.guard = none) (x y : Operand) (ats : Array TypeId) (ho : o.op = .call { callee := .builtin .min, args := #[x, y], argTypes := ats }) (m n r : Int) (hx : a.eval x = .int .i64 m) (hy : a.eval y = .int .i64 n)
    (hr : ∀ ts t W, (Builtin.min_ ts t #[.int .i64 m, .int .i64 n]).run Try.prog W = .ok (.int .i64 r) W) (hR : wpList Try.prog ops Q rest (a.put o.dst (.int .i64 r)) w) : wpList Try.prog ops Q (o :: rest) a w :=
  wpList_plain hgd fun K hK => by
    have hrun := hr ats o.type w
    unfold Oper.wp
    simp [execOp, ho, resolve, invoke, builtin, hx, hy, hrun, Result.andThen]
    exact hK _ _ hR
theorem sz2 (w : World) (o u : Obj) : ((w.alloc o).alloc u).heap.size = w.heap.size + 1 + 1 := by rw [World.size_alloc, World.size_alloc]
/-- The boxes of Of: the address, the result, the prefix as far as it is made. -/
def QofZ (w : World) (l : List UInt8) (p : Pfx) (W : World) : Prop := ArrT 23 W w.heap.size l ∧ PfxT W (w.heap.size + 1) zeroP ∧ PfxT W (w.heap.size + 1 + 1) p ∧ Below w.heap.size w W
theorem QofZ.up {w : World} {l : List UInt8} {p : Pfx} {W W' : World} (h : QofZ w l p W) (hb : Below W.heap.size W W') : QofZ w l p W' := ⟨h.1.up hb, h.2.1.up hb, h.2.2.1.up hb, below_up h.2.2.2 hb h.2.2.2.size⟩
theorem clamp_in2 (s : Bool) (n : Int) : ∃ N : Nat, N ≤ 128 ∧ min (max n 0) (mostP s) = (N : Int) ∧ ∀ l, ofP s l n = ⟨s, maskL l N, (N : Int)⟩ := by
  obtain ⟨N, h1, h2, h3⟩ := clamp_in s n
  refine ⟨N, h1, ?_, h3⟩
  rw [← h2]
  have : 0 ≤ mostP s := by unfold mostP; cases s <;> simp
  omega
set_option maxRecDepth 100000 in
set_option maxHeartbeats 8000000 in
theorem qof_any (s : Bool) (l : List UInt8) (n : Int) (w : World) (hl : l.length = 16) :
    Calls Try.prog 28 #[.bool s, arrV l, .int .i64 n] w fun r w' => r = .returned (ofP s l n).val ∧ Below w.heap.size w w' := by
  obtain ⟨N, hN, hc, hof⟩ := clamp_in2 s n
  have HO := Lib.hid (hof l)
  have HL := Lib.hid hl
  have HM := Lib.hid (fun W => qmost_any s W)
  have HB := Lib.hid (fun i W => qbit_any l i W hl)
  generalize hW : (((w.alloc (.cells (byteVals l).toArray 23)).alloc (.cells zeroP.cells 25)).alloc (.cells (Pfx.cells ⟨s, List.replicate 16 0, (N : Int)⟩) 25)) = W
  have z : QofZ w l ⟨s, maskL l 0, (N : Int)⟩ W := by
    rw [maskL_zero]
    refine ⟨?_, ?_, ?_, ?_⟩
    · rw [← hW]; exact ((arrT_new w l).allocO _).allocO _
    · have := (pfxT_new (w.alloc (.cells (byteVals l).toArray 23)) zeroP).al (.cells (Pfx.cells ⟨s, List.replicate 16 0, (N : Int)⟩) 25)
      rw [World.size_alloc, hW] at this
      exact this
    · have := pfxT_new ((w.alloc (.cells (byteVals l).toArray 23)).alloc (.cells zeroP.cells 25)) ⟨s, List.replicate 16 0, (N : Int)⟩
      rw [World.size_alloc, World.size_alloc, hW] at this
      exact this
    · rw [← hW]; exact (((Below.refl _ _).alloc (Nat.le_refl _) _).alloc (by simp) _).alloc (by simp; omega) _
  have Z := Lib.hid z
  rw [← hW, ← zeroP_cells] at Z
  have hmx : ∀ ts t W, (Builtin.max_ ts t #[.int .i64 n, .int .i64 0]).run Try.prog W = .ok (.int .i64 (max n 0)) W := fun ts t W => by
    rw [run_max_int2]
    congr 2
    omega
  have hmn : ∀ ts t W, (Builtin.min_ ts t #[.int .i64 (max n 0), .int .i64 (mostP s)]).run Try.prog W = .ok (.int .i64 (N : Int)) W := fun ts t W => by
    rw [run_min_int2]
    congr 2
    omega
  clear hW z hc hof hl
  clear W
  generalize max n 0 = nx at *
  generalize mostP s = ms at *
  rw [show arrV l = .agg (byteVals l).toArray from rfl]
  go_enter Try.func28, Try.ntmps28
  go_wp2_with (go_at_call 50; refine (HM.out _).mono ?_; rintro e w1 ⟨rfl, rfl⟩; refine Hid.out ?_)
  refine Lib.hid ?_
  clear HM
  go_wp2_with (first | (refine wpList_min2 rfl (.tmp 11) (.tmp 13) _ rfl nx ms (N : Int) rfl rfl hmn ?_) | (refine wpList_build_pfx02 rfl (.tmp 9) (.tmp 14) rfl s (N : Int) rfl rfl ?_) | (refine wpList_store_newP rfl (.tmp 7) (.tmp 15) rfl ⟨s, [0, 0, 0, 0, 0, 0, 0, 0, 0, 0, 0, 0, 0, 0, 0, 0], (N : Int)⟩ rfl _ (by rw [sz2]; rfl) rfl rfl ?_))
  go_loopw [8] (fun i wr => ∃ k : Nat, k ≤ N ∧ i = .int .i64 (k : Int) ∧ QofZ w l ⟨s, maskL l k, (N : Int)⟩ wr) (fun i _ => 128 - (intOf i).toNat)
  case atStart => exact ⟨0, by omega, rfl, Z.out⟩
  case round =>
    obtain ⟨k, hk, rfl, hz⟩ := hrel
    clear Z
    have c1 := hz.2.2.1.len (maskL_length _ _)
    have HZ := Lib.hid hz
    clear hz
    by_cases hlt : k < N
    · have hlt2 : (k : Int) < (N : Int) := by omega
      have hk128 : k < 128 := by omega
      have HBn := Lib.hid (fun W => HB.out (k : Int) W)
      have hbv := bitI_nat l k hk128
      cases hb : bitL l k
      · rw [hb, if_neg (by simp)] at hbv
        rw [hbv] at HBn
        have HS := Lib.hid (mask_step0 l k hb)
        clear hb hbv
        go_wp2_with (first | (refine wpList_load_arrT rfl (.tmp 4) rfl w.heap.size l (by rw [HL.out]; exact arr16P) rfl HZ.out.1 ?_) | (go_at_call 51; refine (HBn.out _).mono ?_; rintro e w2 ⟨rfl, b2⟩))
        go_roundw
        case rel => exact ⟨k + 1, by omega, by go_num, by rw [HS.out]; exact HZ.out.up b2⟩
        case measure => simp [intOf]; omega
      · rw [hb, if_pos rfl] at hbv
        rw [hbv] at HBn
        obtain ⟨hx, hst⟩ := mask_step1 l k hk128 hb
        have HS := Lib.hid hst
        have HX := Lib.hid hx
        clear hb hbv hx hst
        go_wp2_with (first | (refine wpList_load_arrT rfl (.tmp 4) rfl w.heap.size l (by rw [HL.out]; exact arr16P) rfl HZ.out.1 ?_) | (go_at_call 51; refine (HBn.out _).mono ?_; rintro e w2 ⟨rfl, b2⟩; refine Hid.out ?_))
        refine Lib.hid ?_
        have Z2 := Lib.hid (HZ.out.up b2)
        have c3 := Z2.out.2.2.1.byte (k / 8) (by rw [maskL_length]; omega)
        have f3 := Z2.out.2.2.1.frozen (1 + k / 8)
        rw [show k / 8 + 1 = 1 + k / 8 by omega] at c3
        clear HZ b2 c1
        go_wp2
        refine ⟨⟨k + 1, by omega, by go_num, ?_⟩, by simp [intOf]; omega⟩
        have hx := HX.out
        have e2 : ((128 / 2 ^ (k % 8) : Nat) : Int) = (128 : Int) / 2 ^ (k % 8) := by simp
        have e : (byteAt (maskL l k) (k / 8) + 128 / 2 ^ (k % 8)) % 256 = ((UInt8.ofNat (((maskL l k).getD (k / 8) 0).toNat + 128 / 2 ^ (k % 8))).toNat : Int) := by
          rw [UInt8.toNat_ofNat_of_lt' hx, ← e2]
          unfold byteAt
          generalize (128 / 2 ^ (k % 8) : Nat) = y at hx ⊢
          omega
        have h3 := Z2.out.2.2.1.setByte (k / 8) (by rw [maskL_length]; omega) _ _ e
        rw [show k / 8 + 1 = 1 + k / 8 by omega] at h3
        rw [HS.out]
        exact ⟨Z2.out.1.setOther (by omega) _ _, Z2.out.2.1.setOther (by omega) _ _, h3, Z2.out.2.2.2.setCell (by simp; omega) _⟩
    · have hkN : k = N := by omega
      subst hkN
      have HML := Lib.hid (maskL_length l k)
      generalize maskL l k = L at *
      go_wp2_with (first | (refine wpList_load_pfx rfl (.tmp 7) rfl (w.heap.size + 1 + 1) ⟨s, L, (k : Int)⟩ HML.out rfl HZ.out.2.2.1 ?_) | (refine wpList_store_pfx rfl (.tmp 6) (.tmp 38) rfl (w.heap.size + 1) ⟨s, L, (k : Int)⟩ HML.out _ rfl rfl HZ.out.2.1 rfl ?_))
      exact bodyPost_ret (results_pfx Try.results28 _ _ (w.heap.size + 1) ⟨s, L, (k : Int)⟩ HML.out rfl (pfxT_setRow HZ.out.2.1 _)) rfl ⟨by rw [HO.out], below_setRow HZ.out.2.2.2 (by omega) _⟩
end Go.Proofs.Ytgimcapcnidjjaa
namespace Go.Proofs.Ytgimcapcnidjjaa
open Go Go.RowKit

set_option maxRecDepth 100000 in
set_option maxHeartbeats 8000000 in
theorem qhas_any (p : Pfx) (a : List UInt8) (w : World) (f : p.addr.length = 16) (ha : a.length = 16) :
    Calls Try.prog 52 #[p.val, arrV a] w fun r w' => r = .returned (.bool (hasP p a)) ∧ Below w.heap.size w w' := by
  have Z := Lib.hid (twoZ_new w p a)
  have HI := Lib.hid (has_iff p a)
  have HF := Lib.hid f
  have HA := Lib.hid ha
  have HB1 := Lib.hid (fun n W => qbit_any p.addr n W f)
  have HB2 := Lib.hid (fun n W => qbit_any a n W ha)
  rw [show p.val = .agg p.cells from rfl, show arrV a = .agg (byteVals a).toArray from rfl]
  clear f ha
  generalize hb : hasP p a = b at *
  have HV := Lib.hid hb
  clear hb
  go_enter Try.func52, Try.ntmps52
  go_wp2
  go_loopw [5] (fun i wr => ∃ n : Nat, n ≤ 128 ∧ i = .int .i64 (n : Int) ∧ (∀ j : Nat, j < n → bitL p.addr j = bitL a j) ∧ TwoZ w p a wr) (fun i _ => 128 - (intOf i).toNat)
  case atStart => exact ⟨0, by omega, rfl, fun j h => by omega, Z.out⟩
  case round =>
    obtain ⟨n, hn, rfl, hbits, hz⟩ := hrel
    clear Z
    have c1 := hz.1.len HF.out
    have HZ := Lib.hid hz
    have HBits := Lib.hid hbits
    clear hz hbits
    by_cases hlt : (n : Int) < p.len
    · by_cases hlt2 : n < 128
      · have hlt3 : (n : Int) < 128 := by omega
        have H1 := Lib.hid (fun W => HB1.out (n : Int) W)
        have H2 := Lib.hid (fun W => HB2.out (n : Int) W)
        by_cases hxy : bitI p.addr (n : Int) = bitI a (n : Int)
        · have HE := Lib.hid ((bitI_eq _ _ n hlt2).1 hxy)
          rw [hxy] at H1
          clear hxy
          generalize bitI a (n : Int) = x at *
          go_wp2_with fail
          refine wp_region_noPanic ?_
          refine wp_region_held_drew (S := TwoZ w p a) (by kernel_rfl) HZ.out.drew (fun hHeld => ?_)
          clear HZ c1
          refine held_take (v := ?v455) 0 rfl (by kernel_rfl) (by kernel_rfl) (by kernel_rfl) (fun _ _ _ h => h) (by rfl) ?y455 (by assumption) ?_
          case y455 => (intro w hSw; unfold TwoZ at hSw; go_simp; (try with_reducible rfl); (try omega))
          simp only [List.setIfInBounds_toArray, List.set_cons_zero, List.set_cons_succ]
          refine held_take (v := ?v458) 2 rfl (by kernel_rfl) (by kernel_rfl) (by kernel_rfl) (fun _ _ _ h => h) (by rfl) ?y458 (by assumption) ?_
          case y458 => (intro w hSw; unfold TwoZ at hSw; go_simp; (try with_reducible rfl); (try omega))
          simp only [List.setIfInBounds_toArray, List.set_cons_zero, List.set_cons_succ]
          refine held_take (v := ?v461) 5 rfl (by kernel_rfl) (by kernel_rfl) (by kernel_rfl) (fun _ _ _ h => h) (by rfl) ?y461 (by assumption) ?_
          case y461 => (intro w hSw; unfold TwoZ at hSw; go_simp; (try with_reducible rfl); (try omega))
          simp only [List.setIfInBounds_toArray, List.set_cons_zero, List.set_cons_succ]
          refine held_take (v := arrV p.addr) 1 rfl (by kernel_rfl) (by kernel_rfl) (by kernel_rfl) (fun _ _ _ h => h) (by rfl) (fun W hSw => exec_load_adr (.tmp 16) rfl w.heap.size p HF.out rfl hSw.1) (by assumption) ?_
          simp only [List.setIfInBounds_toArray, List.set_cons_zero, List.set_cons_succ]
          refine held_take (v := arrV a) 4 rfl (by kernel_rfl) (by kernel_rfl) (by kernel_rfl) (fun _ _ _ h => h) (by rfl) (fun W hSw => exec_load_arrT (.tmp 3) rfl (w.heap.size + 1) a (by rw [HA.out]; exact arr16P) rfl hSw.2.1) (by assumption) ?_
          simp only [List.setIfInBounds_toArray, List.set_cons_zero, List.set_cons_succ]
          refine held_one 3 rfl (by kernel_rfl) (by rfl) (fun K hK => ?_)
          go_simp
          refine (H1.out _).mono ?_
          rintro e w1 ⟨rfl, b1⟩
          refine hK.out _ _ (TwoZ.up hHeld b1) (fun hHeld => ?_)
          clear hK K
          refine held_one 6 rfl (by kernel_rfl) (by rfl) (fun K hK => ?_)
          go_simp
          refine (H2.out _).mono ?_
          rintro e w2 ⟨rfl, b2⟩
          refine hK.out _ _ (TwoZ.up hHeld b2) (fun hHeld => ?_)
          clear hK K
          refine held_take (v := ?v480) 7 rfl (by kernel_rfl) (by kernel_rfl) (by kernel_rfl) (fun _ _ _ h => h) (by rfl) ?y480 (by assumption) ?_
          case y480 => (intro w hSw; unfold TwoZ at hSw; go_simp; (try with_reducible rfl); (try omega))
          simp only [List.setIfInBounds_toArray, List.set_cons_zero, List.set_cons_succ]
          refine wpAnyH_done (by kernel_rfl) ?_ _
          refine NoPanic.normal ?_
          have HZ := Lib.hid hHeld
          clear hHeld
          go_wp2
          go_roundw
          case rel => exact ⟨n + 1, by omega, by go_num, fun j hj => by
            by_cases hjn : j = n
            · subst hjn; exact HE.out
            · exact HBits.out j (by omega), HZ.out⟩
          case measure => simp [intOf]; omega
        · have HE : Hid (b = false) := by
            cases b
            · exact rfl
            · exact absurd ((bitI_eq _ _ n hlt2).2 (HI.out.1 rfl n hlt2 hlt)) hxy
          generalize bitI p.addr (n : Int) = y at *
          generalize bitI a (n : Int) = x at *
          go_wp2_with fail
          refine wp_region_noPanic ?_
          refine wp_region_held_drew (S := TwoZ w p a) (by kernel_rfl) HZ.out.drew (fun hHeld => ?_)
          clear HZ c1
          refine held_take (v := ?v504) 0 rfl (by kernel_rfl) (by kernel_rfl) (by kernel_rfl) (fun _ _ _ h => h) (by rfl) ?y504 (by assumption) ?_
          case y504 => (intro w hSw; unfold TwoZ at hSw; go_simp; (try with_reducible rfl); (try omega))
          simp only [List.setIfInBounds_toArray, List.set_cons_zero, List.set_cons_succ]
          refine held_take (v := ?v507) 2 rfl (by kernel_rfl) (by kernel_rfl) (by kernel_rfl) (fun _ _ _ h => h) (by rfl) ?y507 (by assumption) ?_
          case y507 => (intro w hSw; unfold TwoZ at hSw; go_simp; (try with_reducible rfl); (try omega))
          simp only [List.setIfInBounds_toArray, List.set_cons_zero, List.set_cons_succ]
          refine held_take (v := ?v510) 5 rfl (by kernel_rfl) (by kernel_rfl) (by kernel_rfl) (fun _ _ _ h => h) (by rfl) ?y510 (by assumption) ?_
          case y510 => (intro w hSw; unfold TwoZ at hSw; go_simp; (try with_reducible rfl); (try omega))
          simp only [List.setIfInBounds_toArray, List.set_cons_zero, List.set_cons_succ]
          refine held_take (v := arrV p.addr) 1 rfl (by kernel_rfl) (by kernel_rfl) (by kernel_rfl) (fun _ _ _ h => h) (by rfl) (fun W hSw => exec_load_adr (.tmp 16) rfl w.heap.size p HF.out rfl hSw.1) (by assumption) ?_
          simp only [List.setIfInBounds_toArray, List.set_cons_zero, List.set_cons_succ]
          refine held_take (v := arrV a) 4 rfl (by kernel_rfl) (by kernel_rfl) (by kernel_rfl) (fun _ _ _ h => h) (by rfl) (fun W hSw => exec_load_arrT (.tmp 3) rfl (w.heap.size + 1) a (by rw [HA.out]; exact arr16P) rfl hSw.2.1) (by assumption) ?_
          simp only [List.setIfInBounds_toArray, List.set_cons_zero, List.set_cons_succ]
          refine held_one 3 rfl (by kernel_rfl) (by rfl) (fun K hK => ?_)
          go_simp
          refine (H1.out _).mono ?_
          rintro e w1 ⟨rfl, b1⟩
          refine hK.out _ _ (TwoZ.up hHeld b1) (fun hHeld => ?_)
          clear hK K
          refine held_one 6 rfl (by kernel_rfl) (by rfl) (fun K hK => ?_)
          go_simp
          refine (H2.out _).mono ?_
          rintro e w2 ⟨rfl, b2⟩
          refine hK.out _ _ (TwoZ.up hHeld b2) (fun hHeld => ?_)
          clear hK K
          refine held_take (v := ?v529) 7 rfl (by kernel_rfl) (by kernel_rfl) (by kernel_rfl) (fun _ _ _ h => h) (by rfl) ?y529 (by assumption) ?_
          case y529 => (intro w hSw; unfold TwoZ at hSw; go_simp; (try with_reducible rfl); (try omega))
          simp only [List.setIfInBounds_toArray, List.set_cons_zero, List.set_cons_succ]
          refine wpAnyH_done (by kernel_rfl) ?_ _
          refine NoPanic.normal ?_
          have HZ := Lib.hid hHeld
          clear hHeld
          go_wp2
          go_ret
          exact ⟨by rw [HE.out]; rfl, HZ.out.2.2⟩
      · have h128 : n = 128 := by omega
        have HE : Hid (b = true) := HI.out.2 (fun i hi _ => HBits.out i (by omega))
        subst h128
        go_wp2
        go_ret
        exact ⟨by rw [HE.out]; rfl, HZ.out.2.2⟩
    · have HE : Hid (b = true) := HI.out.2 (fun i hi hl => HBits.out i (by omega))
      have hge : p.len ≤ (n : Int) := by omega
      go_wp2
      go_ret
      exact ⟨by rw [HE.out]; rfl, HZ.out.2.2⟩
set_option maxRecDepth 100000 in
set_option maxHeartbeats 4000000 in
theorem qcovers_any (p q : Pfx) (w : World) (f : p.addr.length = 16) (g : q.addr.length = 16) :
    Calls Try.prog 27 #[p.val, q.val] w fun r w' => r = .returned (.bool (covP p q)) ∧ Below w.heap.size w w' := by
  have HH := Lib.hid (fun W => qhas_any p q.addr W f g)
  have Z := Lib.hid (pairZ_new w p q)
  have HF := Lib.hid f
  have HG := Lib.hid g
  rw [show p.val = .agg p.cells from rfl, show q.val = .agg q.cells from rfl]
  have hcov : covP p q = ((p.six == q.six) && decide (p.len ≤ q.len) && hasP p q.addr) := rfl
  rw [hcov]
  clear f g hcov
  generalize hasP p q.addr = b at *
  obtain ⟨s, hs⟩ : ∃ s, p.six = s := ⟨_, rfl⟩
  obtain ⟨u, hu⟩ : ∃ u, q.six = u := ⟨_, rfl⟩
  obtain ⟨m, hm⟩ : ∃ m, p.len = m := ⟨_, rfl⟩
  obtain ⟨n, hn⟩ : ∃ n, q.len = n := ⟨_, rfl⟩
  rw [hs, hu, hm, hn]
  have HS := Lib.hid (And.intro hs (And.intro hu (And.intro hm hn)))
  clear hs hu hm hn
  go_enter Try.func27, Try.ntmps27
  go_wp2_with (first | (refine wpList_load_pfx rfl (.tmp 2) rfl w.heap.size p HF.out rfl Z.out.1 ?_) | (refine wpList_load_arrR rfl (.tmp 7) rfl (w.heap.size + 1) 1 q.addr HG.out rfl Z.out.2.1.range ?_) | (go_at_call 52; refine (HH.out _).mono ?_; rintro e w1 ⟨rfl, b1⟩; refine Hid.out ?_))
  refine Lib.hid ?_
  have Z1 := Lib.hid (Z.out.up b1)
  have c1 := Z1.out.1.six
  have c2 := Z1.out.2.1.six
  have c3 := Z1.out.1.len HF.out
  have c4 := Z1.out.2.1.len HG.out
  clear Z b1 HH
  rw [HS.out.1] at c1
  rw [HS.out.2.1] at c2
  rw [HS.out.2.2.1] at c3
  rw [HS.out.2.2.2] at c4
  by_cases hle : m ≤ n
  · have HLE := Lib.hid (decide_eq_true hle)
    cases s <;> cases u <;> (go_wp2; go_ret; exact ⟨by first | rfl | (rw [HLE.out]; rfl), Z1.out.2.2⟩)
  · have HLE := Lib.hid (decide_eq_false hle)
    cases s <;> cases u <;> (go_wp2; go_ret; exact ⟨by first | rfl | (rw [HLE.out]; rfl), Z1.out.2.2⟩)
theorem below_drewQ {B : Nat} {w W : World} (h : Below B w W) (q : Nat) : Below B w (W.drewN q) := h.trans ⟨rfl, rfl, rfl, Nat.le_refl _, fun _ _ => rfl⟩
theorem drop_at (l : List UInt8) (k : Nat) (hk : k < l.length) : l.drop k = l.getD k 0 :: l.drop (k + 1) := by
  rw [List.drop_eq_getElem_cons hk]
  simp [List.getD, hk]
theorem cmp_lt (l m : List UInt8) (k : Nat) (hl : k < l.length) (hm : k < m.length) (h : byteAt l k < byteAt m k) : cmpB (l.drop k) (m.drop k) = -1 := by
  rw [drop_at l k hl, drop_at m k hm]
  unfold cmpB
  unfold byteAt at h
  rw [if_pos (by omega)]
theorem cmp_gt (l m : List UInt8) (k : Nat) (hl : k < l.length) (hm : k < m.length) (h : byteAt m k < byteAt l k) : cmpB (l.drop k) (m.drop k) = 1 := by
  rw [drop_at l k hl, drop_at m k hm]
  unfold cmpB
  unfold byteAt at h
  rw [if_neg (by omega), if_pos (by omega)]
theorem cmp_eq (l m : List UInt8) (k : Nat) (hl : k < l.length) (hm : k < m.length) (h : byteAt m k = byteAt l k) : cmpB (l.drop k) (m.drop k) = cmpB (l.drop (k + 1)) (m.drop (k + 1)) := by
  rw [drop_at l k hl, drop_at m k hm]
  conv => lhs; unfold cmpB
  unfold byteAt at h
  rw [if_neg (by omega), if_neg (by omega)]
theorem PairZ.drewN {w : World} {p q : Pfx} {W : World} (h : PairZ w p q W) (n : Nat) : PairZ w p q (W.drewN n) := ⟨h.1, h.2.1, below_drewQ h.2.2 n⟩
set_option maxRecDepth 100000 in
set_option maxHeartbeats 8000000 in
theorem qcompare_any (p q : Pfx) (w : World) (f : p.addr.length = 16) (g : q.addr.length = 16) :
    Calls Try.prog 68 #[p.val, q.val] w fun r w' => r = .returned (.int .i64 (cmpP p q)) ∧ Below w.heap.size w w' := by
  have Z := Lib.hid (pairZ_new w p q)
  have c1 := Z.out.1.six
  have c2 := Z.out.2.1.six
  have HF := Lib.hid f
  have HG := Lib.hid g
  rw [show p.val = .agg p.cells from rfl, show q.val = .agg q.cells from rfl]
  by_cases h6 : p.six = q.six
  · have HV := Lib.hid (cmpP_six h6)
    generalize cmpP p q = R at *
    rw [← h6] at c2
    clear f g h6
    go_enter Try.func68, Try.ntmps68
    go_wp2
    go_loopw [5] (fun i wr => ∃ n : Nat, n ≤ 16 ∧ i = .int .i64 (n : Int) ∧ cmpB p.addr q.addr = cmpB (p.addr.drop n) (q.addr.drop n) ∧ PairZ w p q wr) (fun i _ => 16 - (intOf i).toNat)
    case atStart => exact ⟨0, by omega, rfl, rfl, Z.out⟩
    case round =>
      obtain ⟨n, hn, rfl, hcmp, hz⟩ := hrel
      clear Z c1 c2
      by_cases hlt : n < 16
      · have hlt2 : (n : Int) < 16 := by omega
        have c1 := hz.1.byte n (by rw [HF.out]; exact hlt)
        have c2 := hz.2.1.byte n (by rw [HG.out]; exact hlt)
        rw [show n + 1 = 1 + n by omega] at c1 c2
        have HZ := Lib.hid hz
        have HC := Lib.hid hcmp
        have hx := UInt8.toNat_lt (p.addr.getD n 0)
        have hy := UInt8.toNat_lt (q.addr.getD n 0)
        have HL := Lib.hid (cmp_lt p.addr q.addr n (by rw [HF.out]; exact hlt) (by rw [HG.out]; exact hlt))
        have HGt := Lib.hid (cmp_gt p.addr q.addr n (by rw [HF.out]; exact hlt) (by rw [HG.out]; exact hlt))
        have HEq := Lib.hid (cmp_eq p.addr q.addr n (by rw [HF.out]; exact hlt) (by rw [HG.out]; exact hlt))
        clear hz hcmp hx hy
        generalize byteAt p.addr n = x at *
        generalize byteAt q.addr n = y at *
        rcases Int.lt_trichotomy x y with h | h | h
        · have HR : Hid (R = -1) := by
            show R = -1
            rw [HV.out, HC.out, HL.out h]
            rfl
          clear HL HGt HEq
          go_wp2_with fail
          go_quiet (fail)
          go_wp2
          go_ret
          exact ⟨by rw [HR.out]; rfl, below_drewQ HZ.out.2.2 _⟩
        · subst h
          have HE := Lib.hid (HC.out.trans (HEq.out rfl))
          clear HL HGt HEq HC
          go_wp2_with fail
          go_quiet (fail)
          go_wp2_with fail
          go_quiet (fail)
          go_wp2
          go_roundw
          case rel => exact ⟨n + 1, by omega, by go_num, HE.out, HZ.out.drewN _⟩
          case measure => simp [intOf]; omega
        · have HR : Hid (R = 1) := by
            show R = 1
            rw [HV.out, HC.out, HGt.out h]
            rfl
          clear HL HGt HEq
          go_wp2_with fail
          go_quiet (fail)
          go_wp2_with fail
          go_quiet (fail)
          go_wp2
          go_ret
          exact ⟨by rw [HR.out]; rfl, below_drewQ (below_drewQ HZ.out.2.2 _) _⟩
      · have h16 : n = 16 := by omega
        subst h16
        have c3 := hz.1.len HF.out
        have c4 := hz.2.1.len HG.out
        have HZ := Lib.hid hz
        rw [List.drop_of_length_le (by rw [HF.out]; omega), List.drop_of_length_le (by rw [HG.out]; omega)] at hcmp
        have hR := HV.out
        rw [hcmp] at hR
        have HR : Hid (R = cmpI p.len q.len) := hR
        clear hR HV hcmp hz
        generalize p.len = pl at *
        generalize q.len = ql at *
        rcases Int.lt_trichotomy pl ql with h | h | h
        · have HI : Hid (cmpI pl ql = -1) := by
            show cmpI pl ql = -1
            unfold cmpI
            rw [if_pos h]
          go_wp2
          go_ret
          exact ⟨by rw [HR.out, HI.out]; rfl, HZ.out.2.2⟩
        · have HI : Hid (cmpI pl ql = 0) := by
            show cmpI pl ql = 0
            unfold cmpI
            rw [if_neg (by omega), if_neg (by omega)]
          subst h
          go_wp2
          go_ret
          exact ⟨by rw [HR.out, HI.out]; rfl, HZ.out.2.2⟩
        · have HI : Hid (cmpI pl ql = 1) := by
            show cmpI pl ql = 1
            unfold cmpI
            rw [if_neg (by omega), if_pos h]
          go_wp2
          go_ret
          exact ⟨by rw [HR.out, HI.out]; rfl, HZ.out.2.2⟩
  · rw [cmpP_kind h6]
    clear f g
    generalize p.six = s at *
    generalize q.six = u at *
    go_enter Try.func68, Try.ntmps68
    cases s <;> cases u
    · exact absurd rfl h6
    · go_wp2
      go_ret
      exact ⟨rfl, Z.out.2.2⟩
    · go_wp2
      go_ret
      exact ⟨rfl, Z.out.2.2⟩
    · exact absurd rfl h6
end Go.Proofs.Ytgimcapcnidjjaa

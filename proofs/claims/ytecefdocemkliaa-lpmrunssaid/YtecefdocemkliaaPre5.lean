/- Common and Compare of package prefix. -/
import Derived.Test.YtecefdocemkliaaPre4
import Derived.Lib.BytesEntry
import Derived.Laws.Externs
namespace Go.Proofs.Ytecefdocemkliaa
open Go Go.RowKit

def CommZ (w : World) (p q : Pfx) (W : World) : Prop := PairZ w p q W ∧ PfxT W (w.heap.size + 1 + 1) zeroP
theorem CommZ.up {w : World} {p q : Pfx} {W W' : World} (h : CommZ w p q W) (hb : Below W.heap.size W W') : CommZ w p q W' := ⟨h.1.up hb, h.2.up hb⟩
theorem CommZ.drew {w : World} {p q : Pfx} {W : World} (h : CommZ w p q W) : CommZ w p q W.drew := ⟨h.1.drew, h.2⟩
theorem commZ_new (w : World) (p q : Pfx) : CommZ w p q (((w.alloc (.cells p.cells 32)).alloc (.cells q.cells 32)).alloc (.cells zeroP.cells 32)) := by
  refine ⟨(pairZ_new w p q).al _, ?_⟩
  have := pfxT_new ((w.alloc (.cells p.cells 32)).alloc (.cells q.cells 32)) zeroP
  rw [World.size_alloc, World.size_alloc] at this
  exact this
theorem bitI_nat (a : List UInt8) (n : Nat) (hn : n < 128) : bitI a (n : Int) = if bitL a n = true then 1 else 0 := by
  unfold bitI
  rw [Int.toNat_natCast]
  by_cases h : bitL a n = true
  · rw [if_pos ⟨by omega, by omega, h⟩, if_pos h]
  · rw [if_neg (fun e => h e.2.2), if_neg h]
theorem bitI_eq (a b : List UInt8) (n : Nat) (hn : n < 128) : bitI a (n : Int) = bitI b (n : Int) ↔ bitL a n = bitL b n := by
  rw [bitI_nat a n hn, bitI_nat b n hn]
  cases bitL a n <;> cases bitL b n <;> simp
theorem com_step (p q : Pfx) (n : Nat) (hn : n < 128) (h1 : (n : Int) < p.len) (h2 : (n : Int) < q.len) (hb : bitI p.addr (n : Int) = bitI q.addr (n : Int)) : comF p q (128 - n) n = comF p q (128 - (n + 1)) (n + 1) := by
  rw [show 128 - n = (128 - (n + 1)) + 1 by omega, comF, if_pos ⟨h1, h2, hn, (bitI_eq _ _ n hn).1 hb⟩]
theorem com_stop (p q : Pfx) (n : Nat) (h : ¬ ((n : Int) < p.len ∧ (n : Int) < q.len ∧ n < 128 ∧ bitI p.addr (n : Int) = bitI q.addr (n : Int))) : comF p q (128 - n) n = n := by
  cases hf : 128 - n with
  | zero => rfl
  | succ f =>
    rw [comF, if_neg]
    intro hc
    exact h ⟨hc.1, hc.2.1, hc.2.2.1, (bitI_eq _ _ n hc.2.2.1).2 hc.2.2.2⟩
/-- The common one. -/
def comV (p q : Pfx) : Pfx := if p.six = q.six then ofP p.six p.addr (comP p q) else zeroP
set_option maxRecDepth 100000 in
set_option maxHeartbeats 8000000 in
theorem common_any (p q : Pfx) (w : World) (f : p.addr.length = 16) (g : q.addr.length = 16) :
    Calls Try.prog 48 #[p.val, q.val] w fun r w' => r = .returned (.tuple #[(comV p q).val, .bool (p.six == q.six)]) ∧ Below w.heap.size w w' := by
  have Z := Lib.hid (commZ_new w p q)
  rw [← zeroP_cells] at Z
  have c1 := Z.out.1.1.six
  have c2 := Z.out.1.2.1.six
  have HF := Lib.hid f
  have HG := Lib.hid g
  rw [show p.val = .agg p.cells from rfl, show q.val = .agg q.cells from rfl]
  by_cases h6 : p.six = q.six
  · have e : comV p q = ofP p.six p.addr (comP p q) := by unfold comV; rw [if_pos h6]
    rw [e, beq_iff_eq.2 h6]
    have c3 := Z.out.1.1.len f
    have c4 := Z.out.1.2.1.len g
    have HO := Lib.hid (fun n W => pof_any p.six p.addr n W f)
    have HOL := Lib.hid (of_len p.six p.addr (comP p q))
    have HB1 := Lib.hid (fun n W => bit_any p.addr n W f)
    have HB2 := Lib.hid (fun n W => bit_any q.addr n W g)
    have HC := Lib.hid (show comP p q = comF p q (128 - 0) 0 from rfl)
    have HST := Lib.hid (com_step p q)
    have HSP := Lib.hid (com_stop p q)
    rw [← h6] at c2
    clear e f g h6
    obtain ⟨M, hM, hM2⟩ : ∃ M : Int, M ≤ 128 ∧ (∀ n : Nat, (n : Int) < M ↔ ((n : Int) < p.len ∧ (n : Int) < q.len ∧ n < 128)) ∧ ∀ ts t W, (Builtin.min_ ts t #[.int .i64 p.len, .int .i64 q.len, .int .i64 128]).run Try.prog W = .ok (.int .i64 M) W := by
      refine ⟨min (min p.len q.len) 128, by omega, fun n => by omega, fun ts t W => ?_⟩
      rw [run_min_int3]
      congr 2
      split <;> split <;> omega
    have hmin3 := hM2.2
    have HMM := Lib.hid hM2.1
    clear hM2
    generalize hs : p.six = s at *
    generalize p.len = pl at *
    generalize q.len = ql at *
    generalize hcc : comP p q = cc at *
    go_enter Try.func48, Try.ntmps48
    go_wp2
    go_loopw [7] (fun i wr => ∃ n : Nat, n ≤ 128 ∧ i = .int .i64 (n : Int) ∧ cc = comF p q (128 - n) n ∧ CommZ w p q wr) (fun i _ => 128 - (intOf i).toNat)
    case atStart => exact ⟨0, by omega, rfl, HC.out, Z.out⟩
    case round =>
      obtain ⟨n, hn, rfl, hcom, hz⟩ := hrel
      clear Z
      have H1 := Lib.hid (fun W => HB1.out (n : Int) W)
      have H2 := Lib.hid (fun W => HB2.out (n : Int) W)
      by_cases hlt : (n : Int) < M
      · have hcnd := (HMM.out n).1 hlt
        by_cases hxy : bitI p.addr (n : Int) = bitI q.addr (n : Int)
        · rw [HST.out n hcnd.2.2 hcnd.1 hcnd.2.1 hxy] at hcom
          have HCN := Lib.hid hcom
          have HN := Lib.hid hcnd
          rw [hxy] at H1
          clear hcom hcnd hxy
          generalize bitI q.addr (n : Int) = x at *
          go_wp2_with fail
          refine wp_region_noPanic ?_
          refine wp_region_held_drew (S := CommZ w p q) (by kernel_rfl) hz.drew (fun hHeld => ?_)
          clear hz
          refine held_take (v := ?v94) 0 rfl (by kernel_rfl) (by kernel_rfl) (by kernel_rfl) (fun _ _ _ h => h) (by rfl) ?y94 (by assumption) ?_
          case y94 => (intro w hSw; unfold CommZ at hSw; go_simp; (try with_reducible rfl); (try omega))
          simp only [List.setIfInBounds_toArray, List.set_cons_zero, List.set_cons_succ]
          refine held_take (v := ?v97) 1 rfl (by kernel_rfl) (by kernel_rfl) (by kernel_rfl) (fun _ _ _ h => h) (by rfl) ?y97 (by assumption) ?_
          case y97 => (intro w hSw; unfold CommZ at hSw; go_simp; (try with_reducible rfl); (try omega))
          simp only [List.setIfInBounds_toArray, List.set_cons_zero, List.set_cons_succ]
          refine held_take (v := ?v100) 2 rfl (by kernel_rfl) (by kernel_rfl) (by kernel_rfl) (fun _ _ _ h => h) (by rfl) ?y100 (by assumption) ?_
          case y100 => (intro w hSw; unfold CommZ at hSw; go_simp; (try with_reducible rfl); (try omega))
          simp only [List.setIfInBounds_toArray, List.set_cons_zero, List.set_cons_succ]
          refine held_take (v := ?v103) 3 rfl (by kernel_rfl) (by kernel_rfl) (by kernel_rfl) (fun _ _ _ h => h) (by rfl) ?y103 (by assumption) ?_
          case y103 => (intro w hSw; unfold CommZ at hSw; go_simp; (try with_reducible rfl); (try omega))
          simp only [List.setIfInBounds_toArray, List.set_cons_zero, List.set_cons_succ]
          refine held_take (v := ?v106) 4 rfl (by kernel_rfl) (by kernel_rfl) (by kernel_rfl) (fun _ _ _ h => h) (by rfl) ?y106 (by assumption) ?_
          case y106 => (intro w hSw; unfold CommZ at hSw; go_simp; (try with_reducible rfl); (try omega))
          simp only [List.setIfInBounds_toArray, List.set_cons_zero, List.set_cons_succ]
          refine held_take (v := ?v109) 6 rfl (by kernel_rfl) (by kernel_rfl) (by kernel_rfl) (fun _ _ _ h => h) (by rfl) ?y109 (by assumption) ?_
          case y109 => (intro w hSw; unfold CommZ at hSw; go_simp; (try with_reducible rfl); (try omega))
          simp only [List.setIfInBounds_toArray, List.set_cons_zero, List.set_cons_succ]
          refine held_take (v := ?v112) 8 rfl (by kernel_rfl) (by kernel_rfl) (by kernel_rfl) (fun _ _ _ h => h) (by rfl) ?y112 (by assumption) ?_
          case y112 => (intro w hSw; unfold CommZ at hSw; go_simp; (try with_reducible rfl); (try omega))
          simp only [List.setIfInBounds_toArray, List.set_cons_zero, List.set_cons_succ]
          refine held_take (v := ?v115) 10 rfl (by kernel_rfl) (by kernel_rfl) (by kernel_rfl) (fun _ _ _ h => h) (by rfl) ?y115 (by assumption) ?_
          case y115 => (intro w hSw; unfold CommZ at hSw; go_simp; (try with_reducible rfl); (try omega))
          simp only [List.setIfInBounds_toArray, List.set_cons_zero, List.set_cons_succ]
          refine held_take (v := arrV p.addr) 5 rfl (by kernel_rfl) (by kernel_rfl) (by kernel_rfl) (fun _ _ _ h => h) (by rfl) (fun W hSw => exec_load_adr (.tmp 23) rfl w.heap.size p HF.out rfl hSw.1.1) (by assumption) ?_
          simp only [List.setIfInBounds_toArray, List.set_cons_zero, List.set_cons_succ]
          refine held_take (v := arrV q.addr) 9 rfl (by kernel_rfl) (by kernel_rfl) (by kernel_rfl) (fun _ _ _ h => h) (by rfl) (fun W hSw => exec_load_adr (.tmp 27) rfl (w.heap.size + 1) q HG.out rfl hSw.1.2.1) (by assumption) ?_
          simp only [List.setIfInBounds_toArray, List.set_cons_zero, List.set_cons_succ]
          refine held_one 7 rfl (by kernel_rfl) (by rfl) (fun K hK => ?_)
          go_simp
          refine (H1.out _).mono ?_
          rintro e w1 ⟨rfl, b1⟩
          refine hK.out _ _ (CommZ.up hHeld b1) (fun hHeld => ?_)
          clear hK K
          refine held_one 11 rfl (by kernel_rfl) (by rfl) (fun K hK => ?_)
          go_simp
          refine (H2.out _).mono ?_
          rintro e w2 ⟨rfl, b2⟩
          refine hK.out _ _ (CommZ.up hHeld b2) (fun hHeld => ?_)
          clear hK K
          refine held_take (v := ?v134) 12 rfl (by kernel_rfl) (by kernel_rfl) (by kernel_rfl) (fun _ _ _ h => h) (by rfl) ?y134 (by assumption) ?_
          case y134 => (intro w hSw; unfold CommZ at hSw; go_simp; (try with_reducible rfl); (try omega))
          simp only [List.setIfInBounds_toArray, List.set_cons_zero, List.set_cons_succ]
          refine held_take (v := ?v137) 13 rfl (by kernel_rfl) (by kernel_rfl) (by kernel_rfl) (fun _ _ _ h => h) (by rfl) ?y137 (by assumption) ?_
          case y137 => (intro w hSw; unfold CommZ at hSw; go_simp; (try with_reducible rfl); (try omega))
          simp only [List.setIfInBounds_toArray, List.set_cons_zero, List.set_cons_succ]
          refine wpAnyH_done (by kernel_rfl) ?_ _
          refine NoPanic.normal ?_
          have HZ := Lib.hid hHeld
          clear hHeld
          go_wp2
          go_roundw
          case rel => exact ⟨n + 1, by have := HN.out.2.2; omega, by go_num, HCN.out, HZ.out⟩
          case measure => simp [intOf]; have := HN.out.2.2; omega
        · rw [HSP.out n (fun h => hxy h.2.2.2)] at hcom
          have HCN := Lib.hid hcom
          clear hcnd
          generalize bitI p.addr (n : Int) = y at *
          generalize bitI q.addr (n : Int) = x at *
          go_wp2_with fail
          refine wp_region_noPanic ?_
          refine wp_region_held_drew (S := CommZ w p q) (by kernel_rfl) hz.drew (fun hHeld => ?_)
          clear hz
          refine held_take (v := ?v157) 0 rfl (by kernel_rfl) (by kernel_rfl) (by kernel_rfl) (fun _ _ _ h => h) (by rfl) ?y157 (by assumption) ?_
          case y157 => (intro w hSw; unfold CommZ at hSw; go_simp; (try with_reducible rfl); (try omega))
          simp only [List.setIfInBounds_toArray, List.set_cons_zero, List.set_cons_succ]
          refine held_take (v := ?v160) 1 rfl (by kernel_rfl) (by kernel_rfl) (by kernel_rfl) (fun _ _ _ h => h) (by rfl) ?y160 (by assumption) ?_
          case y160 => (intro w hSw; unfold CommZ at hSw; go_simp; (try with_reducible rfl); (try omega))
          simp only [List.setIfInBounds_toArray, List.set_cons_zero, List.set_cons_succ]
          refine held_take (v := ?v163) 2 rfl (by kernel_rfl) (by kernel_rfl) (by kernel_rfl) (fun _ _ _ h => h) (by rfl) ?y163 (by assumption) ?_
          case y163 => (intro w hSw; unfold CommZ at hSw; go_simp; (try with_reducible rfl); (try omega))
          simp only [List.setIfInBounds_toArray, List.set_cons_zero, List.set_cons_succ]
          refine held_take (v := ?v166) 3 rfl (by kernel_rfl) (by kernel_rfl) (by kernel_rfl) (fun _ _ _ h => h) (by rfl) ?y166 (by assumption) ?_
          case y166 => (intro w hSw; unfold CommZ at hSw; go_simp; (try with_reducible rfl); (try omega))
          simp only [List.setIfInBounds_toArray, List.set_cons_zero, List.set_cons_succ]
          refine held_take (v := ?v169) 4 rfl (by kernel_rfl) (by kernel_rfl) (by kernel_rfl) (fun _ _ _ h => h) (by rfl) ?y169 (by assumption) ?_
          case y169 => (intro w hSw; unfold CommZ at hSw; go_simp; (try with_reducible rfl); (try omega))
          simp only [List.setIfInBounds_toArray, List.set_cons_zero, List.set_cons_succ]
          refine held_take (v := ?v172) 6 rfl (by kernel_rfl) (by kernel_rfl) (by kernel_rfl) (fun _ _ _ h => h) (by rfl) ?y172 (by assumption) ?_
          case y172 => (intro w hSw; unfold CommZ at hSw; go_simp; (try with_reducible rfl); (try omega))
          simp only [List.setIfInBounds_toArray, List.set_cons_zero, List.set_cons_succ]
          refine held_take (v := ?v175) 8 rfl (by kernel_rfl) (by kernel_rfl) (by kernel_rfl) (fun _ _ _ h => h) (by rfl) ?y175 (by assumption) ?_
          case y175 => (intro w hSw; unfold CommZ at hSw; go_simp; (try with_reducible rfl); (try omega))
          simp only [List.setIfInBounds_toArray, List.set_cons_zero, List.set_cons_succ]
          refine held_take (v := ?v178) 10 rfl (by kernel_rfl) (by kernel_rfl) (by kernel_rfl) (fun _ _ _ h => h) (by rfl) ?y178 (by assumption) ?_
          case y178 => (intro w hSw; unfold CommZ at hSw; go_simp; (try with_reducible rfl); (try omega))
          simp only [List.setIfInBounds_toArray, List.set_cons_zero, List.set_cons_succ]
          refine held_take (v := arrV p.addr) 5 rfl (by kernel_rfl) (by kernel_rfl) (by kernel_rfl) (fun _ _ _ h => h) (by rfl) (fun W hSw => exec_load_adr (.tmp 23) rfl w.heap.size p HF.out rfl hSw.1.1) (by assumption) ?_
          simp only [List.setIfInBounds_toArray, List.set_cons_zero, List.set_cons_succ]
          refine held_take (v := arrV q.addr) 9 rfl (by kernel_rfl) (by kernel_rfl) (by kernel_rfl) (fun _ _ _ h => h) (by rfl) (fun W hSw => exec_load_adr (.tmp 27) rfl (w.heap.size + 1) q HG.out rfl hSw.1.2.1) (by assumption) ?_
          simp only [List.setIfInBounds_toArray, List.set_cons_zero, List.set_cons_succ]
          refine held_one 7 rfl (by kernel_rfl) (by rfl) (fun K hK => ?_)
          go_simp
          refine (H1.out _).mono ?_
          rintro e w1 ⟨rfl, b1⟩
          refine hK.out _ _ (CommZ.up hHeld b1) (fun hHeld => ?_)
          clear hK K
          refine held_one 11 rfl (by kernel_rfl) (by rfl) (fun K hK => ?_)
          go_simp
          refine (H2.out _).mono ?_
          rintro e w2 ⟨rfl, b2⟩
          refine hK.out _ _ (CommZ.up hHeld b2) (fun hHeld => ?_)
          clear hK K
          refine held_take (v := ?v197) 12 rfl (by kernel_rfl) (by kernel_rfl) (by kernel_rfl) (fun _ _ _ h => h) (by rfl) ?y197 (by assumption) ?_
          case y197 => (intro w hSw; unfold CommZ at hSw; go_simp; (try with_reducible rfl); (try omega))
          simp only [List.setIfInBounds_toArray, List.set_cons_zero, List.set_cons_succ]
          refine held_take (v := ?v200) 13 rfl (by kernel_rfl) (by kernel_rfl) (by kernel_rfl) (fun _ _ _ h => h) (by rfl) ?y200 (by assumption) ?_
          case y200 => (intro w hSw; unfold CommZ at hSw; go_simp; (try with_reducible rfl); (try omega))
          simp only [List.setIfInBounds_toArray, List.set_cons_zero, List.set_cons_succ]
          refine wpAnyH_done (by kernel_rfl) ?_ _
          refine NoPanic.normal ?_
          have HZ := Lib.hid hHeld
          clear hHeld
          have hs0 := HZ.out.1.1.six
          rw [hs] at hs0
          have HOn := Lib.hid (fun W => HO.out (n : Int) W)
          clear hcom
          go_wp2_with (first | (refine wpList_load_arrR rfl (.tmp 37) rfl w.heap.size 1 p.addr HF.out rfl HZ.out.1.1.range ?_) | (go_at_call 26; refine (HOn.out _).mono ?_; rintro e w3 ⟨rfl, b3⟩; refine Hid.out ?_))
          refine Lib.hid ?_
          have Z3 := Lib.hid (HZ.out.up b3)
          clear HZ b3 hs0
          go_wp2_with (refine wpList_store_pfx rfl (.tmp 4) (.tmp 40) rfl (w.heap.size + 1 + 1) (ofP s p.addr (n : Int)) (of_len _ _ _) _ rfl rfl Z3.out.2 rfl ?_)
          exact bodyPost_ret (results_pfx2 Try.results48 _ _ (w.heap.size + 1 + 1) (ofP s p.addr (n : Int)) (of_len _ _ _) rfl (pfxT_setRow Z3.out.2 _)) rfl ⟨by rw [HCN.out]; rfl, below_setRow Z3.out.1.2.2 (by omega) _⟩
      · have hcnd := fun h => hlt ((HMM.out n).2 h)
        rw [HSP.out n (fun h => hcnd ⟨h.1, h.2.1, h.2.2.1⟩)] at hcom
        have HCN := Lib.hid hcom
        have hlt2 : M ≤ (n : Int) := by omega
        clear hcnd hlt
        go_wp2_with fail
        refine wp_region_noPanic ?_
        refine wp_region_held_drew (S := CommZ w p q) (by kernel_rfl) hz.drew (fun hHeld => ?_)
        clear hz
        refine held_take (v := ?v226) 0 rfl (by kernel_rfl) (by kernel_rfl) (by kernel_rfl) (fun _ _ _ h => h) (by rfl) ?y226 (by assumption) ?_
        case y226 => (intro w hSw; unfold CommZ at hSw; go_simp; (try with_reducible rfl); (try omega))
        simp only [List.setIfInBounds_toArray, List.set_cons_zero, List.set_cons_succ]
        refine held_take (v := ?v229) 1 rfl (by kernel_rfl) (by kernel_rfl) (by kernel_rfl) (fun _ _ _ h => h) (by rfl) ?y229 (by assumption) ?_
        case y229 => (intro w hSw; unfold CommZ at hSw; go_simp; (try with_reducible rfl); (try omega))
        simp only [List.setIfInBounds_toArray, List.set_cons_zero, List.set_cons_succ]
        refine held_take (v := ?v232) 2 rfl (by kernel_rfl) (by kernel_rfl) (by kernel_rfl) (fun _ _ _ h => h) (by rfl) ?y232 (by assumption) ?_
        case y232 => (intro w hSw; unfold CommZ at hSw; go_simp; (try with_reducible rfl); (try omega))
        simp only [List.setIfInBounds_toArray, List.set_cons_zero, List.set_cons_succ]
        rw [decide_eq_false (show ¬ (n : Int) < M by omega)]
        refine held_take (v := ?v236) 3 rfl (by kernel_rfl) (by kernel_rfl) (by kernel_rfl) (fun _ _ _ h => h) (by rfl) ?y236 (by assumption) ?_
        case y236 => (intro w hSw; unfold CommZ at hSw; go_simp; (try with_reducible rfl); (try omega))
        simp only [List.setIfInBounds_toArray, List.set_cons_zero, List.set_cons_succ]
        refine held_skip 4 rfl (by kernel_rfl) (by kernel_rfl) (by kernel_rfl) (fun _ _ _ h => h) (by rfl) (by assumption) ?_
        simp only [List.setIfInBounds_toArray, List.set_cons_zero, List.set_cons_succ]
        refine held_skip 5 rfl (by kernel_rfl) (by kernel_rfl) (by kernel_rfl) (fun _ _ _ h => h) (by rfl) (by assumption) ?_
        simp only [List.setIfInBounds_toArray, List.set_cons_zero, List.set_cons_succ]
        refine held_skip 6 rfl (by kernel_rfl) (by kernel_rfl) (by kernel_rfl) (fun _ _ _ h => h) (by rfl) (by assumption) ?_
        simp only [List.setIfInBounds_toArray, List.set_cons_zero, List.set_cons_succ]
        refine held_skip 7 rfl (by kernel_rfl) (by kernel_rfl) (by kernel_rfl) (fun _ _ _ h => h) (by rfl) (by assumption) ?_
        simp only [List.setIfInBounds_toArray, List.set_cons_zero, List.set_cons_succ]
        refine held_skip 8 rfl (by kernel_rfl) (by kernel_rfl) (by kernel_rfl) (fun _ _ _ h => h) (by rfl) (by assumption) ?_
        simp only [List.setIfInBounds_toArray, List.set_cons_zero, List.set_cons_succ]
        refine held_skip 9 rfl (by kernel_rfl) (by kernel_rfl) (by kernel_rfl) (fun _ _ _ h => h) (by rfl) (by assumption) ?_
        simp only [List.setIfInBounds_toArray, List.set_cons_zero, List.set_cons_succ]
        refine held_skip 10 rfl (by kernel_rfl) (by kernel_rfl) (by kernel_rfl) (fun _ _ _ h => h) (by rfl) (by assumption) ?_
        simp only [List.setIfInBounds_toArray, List.set_cons_zero, List.set_cons_succ]
        refine held_skip 11 rfl (by kernel_rfl) (by kernel_rfl) (by kernel_rfl) (fun _ _ _ h => h) (by rfl) (by assumption) ?_
        simp only [List.setIfInBounds_toArray, List.set_cons_zero, List.set_cons_succ]
        refine held_skip 12 rfl (by kernel_rfl) (by kernel_rfl) (by kernel_rfl) (fun _ _ _ h => h) (by rfl) (by assumption) ?_
        simp only [List.setIfInBounds_toArray, List.set_cons_zero, List.set_cons_succ]
        refine held_take (v := ?v257) 13 rfl (by kernel_rfl) (by kernel_rfl) (by kernel_rfl) (fun _ _ _ h => h) (by rfl) ?y257 (by assumption) ?_
        case y257 => (intro w hSw; unfold CommZ at hSw; go_simp; (try with_reducible rfl); (try omega))
        simp only [List.setIfInBounds_toArray, List.set_cons_zero, List.set_cons_succ]
        refine wpAnyH_done (by kernel_rfl) ?_ _
        refine NoPanic.normal ?_
        have HZ := Lib.hid hHeld
        clear hHeld
        have hs0 := HZ.out.1.1.six
        rw [hs] at hs0
        have HOn := Lib.hid (fun W => HO.out (n : Int) W)
        clear hcom
        go_wp2_with (first | (refine wpList_load_arrR rfl (.tmp 37) rfl w.heap.size 1 p.addr HF.out rfl HZ.out.1.1.range ?_) | (go_at_call 26; refine (HOn.out _).mono ?_; rintro e w3 ⟨rfl, b3⟩; refine Hid.out ?_))
        refine Lib.hid ?_
        have Z3 := Lib.hid (HZ.out.up b3)
        clear HZ b3 hs0
        go_wp2_with (refine wpList_store_pfx rfl (.tmp 4) (.tmp 40) rfl (w.heap.size + 1 + 1) (ofP s p.addr (n : Int)) (of_len _ _ _) _ rfl rfl Z3.out.2 rfl ?_)
        exact bodyPost_ret (results_pfx2 Try.results48 _ _ (w.heap.size + 1 + 1) (ofP s p.addr (n : Int)) (of_len _ _ _) rfl (pfxT_setRow Z3.out.2 _)) rfl ⟨by rw [HCN.out]; rfl, below_setRow Z3.out.1.2.2 (by omega) _⟩
  · have e : comV p q = zeroP := by unfold comV; rw [if_neg h6]
    rw [e, beq_eq_false_iff_ne.2 h6]
    clear e f g
    generalize p.six = s at *
    generalize q.six = u at *
    go_enter Try.func48, Try.ntmps48
    cases s <;> cases u
    · exact absurd rfl h6
    · go_wp2_with (first | (refine wpList_build_pfx0 rfl rfl ?_) | (refine wpList_store_pfx rfl (.tmp 4) (.tmp 13) rfl (w.heap.size + 1 + 1) zeroP rfl _ rfl rfl Z.out.2 rfl ?_))
      exact bodyPost_ret (results_pfx2 Try.results48 _ _ (w.heap.size + 1 + 1) zeroP rfl rfl (pfxT_setRow Z.out.2 _)) rfl ⟨rfl, below_setRow Z.out.1.2.2 (by omega) _⟩
    · go_wp2_with (first | (refine wpList_build_pfx0 rfl rfl ?_) | (refine wpList_store_pfx rfl (.tmp 4) (.tmp 13) rfl (w.heap.size + 1 + 1) zeroP rfl _ rfl rfl Z.out.2 rfl ?_))
      exact bodyPost_ret (results_pfx2 Try.results48 _ _ (w.heap.size + 1 + 1) zeroP rfl rfl (pfxT_setRow Z.out.2 _)) rfl ⟨rfl, below_setRow Z.out.1.2.2 (by omega) _⟩
    · exact absurd rfl h6
theorem run_bytes {w : World} (b k c : Nat) (l : List UInt8) (h : w.rangeAt b k (byteVals l)) : (Extern.Bytes.bytesOf (.slice (some ⟨b, k, none⟩) l.length c)).run Try.prog w = .ok ⟨l.toArray⟩ w := by
  have hl := Lib.run_loadBytesX (P := Try.prog) w (l.map fun x => (x.toNat : Int)) ⟨b, k, none⟩ .empty (fun j x hj => by
    have e : (⟨b, k, none⟩ : Addr).add j = ⟨b, k + j, none⟩ := by unfold Addr.add; split <;> simp_all
    rw [e]
    refine h j _ ?_
    rw [List.getElem?_map] at hj
    unfold byteVals
    rw [List.getElem?_map]
    cases hx : l[j]? with
    | none => rw [hx] at hj; cases hj
    | some y => rw [hx] at hj; cases hj; rfl)
  rw [List.length_map] at hl
  have e : Lib.bytesOf (l.map fun x => (x.toNat : Int)) = l := by
    unfold Lib.bytesOf
    rw [List.map_map]
    conv => rhs; rw [← List.map_id l]
    apply List.map_congr_left
    intro x _
    simp
  rw [e] at hl
  simp only [Extern.Bytes.bytesOf]
  rw [hl]
  congr 1
  apply ByteArray.ext
  show (#[] : Array UInt8) ++ l.toArray = l.toArray
  simp
theorem run_cmp {w : World} (b1 k1 c1 b2 k2 c2 : Nat) (l m : List UInt8) (h1 : w.rangeAt b1 k1 (byteVals l)) (h2 : w.rangeAt b2 k2 (byteVals m)) :
    (Extern.BytealgCompare.compare #[.slice (some ⟨b1, k1, none⟩) l.length c1, .slice (some ⟨b2, k2, none⟩) m.length c2]).run Try.prog w = .ok (.int .i64 (Lib.compareBytes l m)) w := by
  change Sem.run Try.prog (do pure (goInt (Extern.BytealgCompare.cmp (← Extern.Bytes.bytesOf (.slice (some ⟨b1, k1, none⟩) l.length c1)) (← Extern.Bytes.bytesOf (.slice (some ⟨b2, k2, none⟩) m.length c2))))) w = _
  simp only [Sem.run_bind, Sem.run_pure, Result.andThen, run_bytes b1 k1 c1 l h1, run_bytes b2 k2 c2 m h2]
  rw [Lib.cmp_eq]
  rfl
/-- Bytes compared. -/
theorem cmpB_eq : ∀ (l m : List UInt8), l.length = m.length → Lib.compareBytes l m = cmpB l m
  | [], [], _ => rfl
  | [], _ :: _, h => by simp at h
  | _ :: _, [], h => by simp at h
  | x :: l, y :: m, h => by
    have ih := cmpB_eq l m (by simpa using h)
    unfold Lib.compareBytes cmpB
    rw [ih]
    simp only [UInt8.lt_iff_toNat_lt]
def cmpI (m n : Int) : Int := if m < n then -1 else if n < m then 1 else 0
theorem wpList_neq_arrB8 {ops : Array Oper} {rest : List Oper} {o : Oper} {a : Act} {w : World} {Q : Exit → Act → World → Prop} {t : TypeId} {n : Nat} (hgd : o.guard = none) (ht : IsArr t n) (x y : Operand) (ty : TypeId) (ho : o.op = .binOp .neq t x y ty) (l m : List UInt8) (hl : l.length = n) (hm : m.length = n) (b : Bool) (hb : (!decide (l = m)) = b) (hx : a.eval x = arrV l) (hy : a.eval y = arrV m)
    (hR : wpList Try.prog ops Q rest (a.put o.dst (.bool b)) w) : wpList Try.prog ops Q (o :: rest) a w := by
  subst hb
  exact wpList_plain hgd fun K hK => by
    have h := eq_arrV ht 9998 l m hl hm w
    have hg := ht.guard
    have : (do eqGuard .neq t x y (arrV l) (arrV m); binOp .neq t (arrV l) (arrV m) : Sem Value).run Try.prog w = .ok (.bool (!decide (l = m))) w := by
      unfold arrV at *
      go_simp
    unfold Oper.wp execOp
    simp only [ho, hx, hy, Sem.run_bind] at this ⊢
    rw [this]
    exact hK _ _ hR
end Go.Proofs.Ytecefdocemkliaa

/- The document's tables of both kinds (footplateref10): Above. -/
import Derived.Test.YtgimcapcnidjjaaG10d
namespace Go.Proofs.Ytgimcapcnidjjaa
open Go Go.RowKit

def HeldH10 (B : Nat) (l : List Value) (b k : Nat) (m : List Value) (y : Int) (W : World) : Prop := W.rangeAt B 0 l ∧ W.rangeAt b k m ∧ W.cell? ⟨b, k + 17, none⟩ = some (.int .i64 y)
set_option maxRecDepth 100000 in
set_option maxHeartbeats 8000000 in
theorem gabove (is : Bool) (room : Int) (D : Bool → Sl) (L : Bool → List (Pfx × Int)) (p : Pfx) (w : World) (hC : ∀ s, IsC itF 19 w (D s).v (L s)) (hl : ∀ s, (L s).length ≤ 400000) (hp : p.addr.length = 16) (hO : ∀ s, InOrder cmpP (okP s) (L s)) :
    Calls Try.prog 23 #[fV is room D, p.val] w fun e w' => ∃ va vc, e = .returned (.slice va (abvL p (L p.six)).length vc) ∧ IsC itF 19 w' (.slice va (abvL p (L p.six)).length vc) (abvL p (L p.six)) ∧ Below w.heap.size w w' := by
  have HT := Lib.hid (twoB_new w 33 25 (fR is room D) p.row)
  have R1 := Lib.hid (rangeAll HT.out.1)
  have R2 := Lib.hid (rangeAll HT.out.2.1)
  have HP := Lib.hid hp
  have HCH := Lib.hid (fun W => qcheck_any p W hp)
  have HA := Lib.hid (fun W (hW : Below w.heap.size w W) => gall is room D L W (fun s => (hC s).below hW) hl)
  have HL : Hid ((kindL L).length ≤ 800000) := Lib.hid (by have := hl false; have := hl true; rw [kind_len]; omega)
  have HE : Hid (chkP p = true → abvL p (L p.six) = fallL p (kindL L) p.len.toNat) := Lib.hid (fun h => by
    unfold abvL
    rw [if_pos h, fall_kind (fun s x hx => ((hO s).2 x hx).1), fall_abv (hO p.six) ⟨rfl, hp, h⟩])
  have HE0 : Hid (chkP p = false → abvL p (L p.six) = []) := Lib.hid (fun h => by unfold abvL; rw [h, if_neg (by simp)])
  have HRL : Hid ((abvL p (L p.six)).length ≤ 400000) := Lib.hid (by
    have := hl p.six
    unfold abvL
    split
    · rw [List.length_reverse]; exact Nat.le_trans (List.length_filter_le _ _) this
    · simp)
  have HP0 : Hid (chkP p = true → ∃ n0 : Nat, p.len = (n0 : Int) ∧ n0 ≤ 128) := Lib.hid (fun h => by
    have := okP.len0 (six := p.six) (p := p) ⟨rfl, hp, h⟩
    exact ⟨p.len.toNat, by omega, by omega⟩)
  rw [show fV is room D = .agg (fR is room D).toArray from rfl, show p.val = .agg p.row.toArray from rfl]
  clear hC hp hl hO
  generalize kindL L = M at *
  generalize abvL p (L p.six) = R at *
  cases hck : chkP p with
  | false =>
    rw [hck] at HCH
    obtain rfl := HE0.out hck
    simp only [Bool.false_eq_true, if_false] at HCH
    go_enter Try.func23, Try.ntmps23
    go_wp2_with (first
      | (refine plV rfl p.val (exec_load_any _ (.tmp 3) rfl (w.heap.size + 1) 0 p.row _ rfl R2.out Try.underlying25 rfl (pf_infoC HP.out)) ?_)
      | (go_at_call 26; refine (HCH.out _).mono ?_; rintro e w1 ⟨rfl, b1⟩; refine Hid.out ?_))
    refine Lib.hid ?_
    go_wp2
    go_ret
    exact ⟨none, 0, rfl, IsC.nil _, below_up HT.out.2.2 b1 HT.out.2.2.size⟩
  | true =>
    rw [hck] at HCH
    have HER := Lib.hid (HE.out hck)
    obtain ⟨n0, hn0, hn1⟩ := HP0.out hck
    have HN0 := Lib.hid hn0
    simp only [if_true] at HCH
    clear HE HE0 HP0 hn0
    go_enter Try.func23, Try.ntmps23
    go_wp2_with (first
      | (refine plV rfl p.val (exec_load_any _ (.tmp 3) rfl (w.heap.size + 1) 0 p.row _ rfl R2.out Try.underlying25 rfl (pf_infoC HP.out)) ?_)
      | (go_at_call 26; refine (HCH.out _).mono ?_; rintro e w1 ⟨rfl, b1⟩; refine Hid.out ?_))
    refine Lib.hid ?_
    have HT1 := Lib.hid (HT.out.up b1)
    have R1 := Lib.hid (rangeAll HT1.out.1)
    have HA1 := Lib.hid (HA.out _ HT1.out.2.2)
    clear b1 HT R2 HA HCH
    go_wp2_with (first
      | (refine plV rfl (fV is room D) (exec_load_any _ (.tmp 2) rfl w.heap.size 0 (fR is room D) _ rfl R1.out Try.underlying33 rfl f_info) ?_)
      | (go_at_call 21; refine HA1.out.mono ?_; rintro e w2 ⟨va, vc, rfl, l2, b2⟩; refine Hid.out ?_))
    refine Lib.hid ?_
    have HB2 := Lib.hid (below_up HT1.out.2.2 b2 HT1.out.2.2.size)
    have HP2 := Lib.hid (HT1.out.2.1.up b2)
    have c17 : w2.cell? ⟨w.heap.size + 1, 17, none⟩ = some (.int .i64 (n0 : Int)) := by rw [HP2.out.cell, row_plen HP.out, HN0.out]
    obtain ⟨_, hcap, hcm, _⟩ := l2.shape
    unfold maxLen at hcm
    have HL2 := Lib.hid l2
    obtain ⟨ti, hti, htz, hts, htb⟩ := info_parts i_infoF
    clear l2 b2 HA1 HT1 R1
    go_wp2
    clear c17
    have hrest : fallL p M n0 = R := by rw [HER.out, HN0.out, Int.toNat_natCast]
    have HRE := Lib.hid hrest
    clear hrest
    go_loopw [6, 7, 8] (fun kv nv _ wr => ∃ (k : Nat) (S : List (Pfx × Int)), k ≤ n0 ∧ nv = .int .i64 ((k : Int) - 1) ∧ S ++ fallL p M k = R ∧ wr.ownsRow w2.heap.size 47 19 kv S.length (S.flatMap itF) ∧ Below w2.heap.size w2 wr) (fun _ nv _ _ => (intOf nv + 1).toNat)
    case atStart => exact ⟨n0, [], by omega, rfl, HRE.out, World.ownsRow_nil _ _ _ _, Below.refl _ _⟩
    case round =>
      obtain ⟨k, S, hk, rfl, hS, hown, hbw⟩ := hrel
      rcases k with _ | k
      · have hSR : S = R := by rw [← hS]; unfold fallL; simp
        subst hSR
        have HOWN := Lib.hid (own_isR (M := S) (fun x hx => by
          rw [← HRE.out] at hx
          have : ∀ k, ∀ x ∈ fallL p M k, x ∈ M := fun k => by
            induction k with
            | zero => intro x hx; cases hx
            | succ k ih =>
              intro x hx
              rcases List.mem_append.1 hx with h | h
              · exact (List.mem_filter.1 h).1
              · exact ih x h
          exact HL2.out.1 x (this _ x hx)) hown)
        have HBW := Lib.hid (below_up HB2.out hbw HB2.out.size)
        clear hown hbw hS HRE HER
        go_wp2
        go_ret
        obtain ⟨ua, uc, rfl, hc⟩ := HOWN.out
        exact ⟨ua, uc, rfl, hc, HBW.out⟩
      · rw [show (((k + 1 : Nat)) : Int) - 1 = (k : Int) by omega]
        have hS2 : S ++ M.filter (lenF p (k : Int)) ++ fallL p M k = R := by rw [List.append_assoc]; exact hS
        have HS2 := Lib.hid hS2
        have HSL : Hid (∀ j, (S ++ (M.take j).filter (lenF p (k : Int))).length ≤ 400000) := Lib.hid (fun j => by
          have h1 := congrArg List.length hS2
          have h2 : ((M.take j).filter (lenF p (k : Int))).length ≤ (M.filter (lenF p (k : Int))).length := ((List.take_sublist j M).filter _).length_le
          have h3 := HRL.out
          rw [List.length_append, List.length_append] at h1
          rw [List.length_append]
          omega)
        have hk128 : (k : Int) ≤ 128 := by omega
        have HOW := Lib.hid hown
        have HBW := Lib.hid hbw
        have HK := Lib.hid hk
        clear hS hS2 hown hbw
        go_wp2
        go_loopw [6, 8] (fun kv iv wr2 => ∃ j : Nat, j ≤ M.length ∧ iv = .int .i64 (j : Int) ∧ wr2.ownsRow w2.heap.size 47 19 kv (S ++ (M.take j).filter (lenF p (k : Int))).length ((S ++ (M.take j).filter (lenF p (k : Int))).flatMap itF) ∧ Below w2.heap.size w2 wr2) (fun _ iv _ => M.length - (intOf iv).toNat)
        case atStart => exact ⟨0, by omega, rfl, by simpa using HOW.out, HBW.out⟩
        case round =>
          obtain ⟨j, hj, rfl, hown, hbw⟩ := hrel
          clear HOW HBW
          by_cases hje : j = M.length
          · subst hje
            rw [List.take_length] at hown
            have HOWN := Lib.hid hown
            have HBW := Lib.hid hbw
            clear hown hbw
            go_wp2
            go_roundw
            case rel => exact ⟨k, _, by have := HK.out; omega, by go_num, HS2.out, HOWN.out, HBW.out⟩
            case measure => simp [intOf]
          · have hlt : j < M.length := by omega
            obtain ⟨x, hx⟩ : ∃ x, M[j]? = some x := ⟨_, List.getElem?_eq_getElem hlt⟩
            have hx16 := itF_addr (HL2.out.1 x (List.mem_of_getElem? hx))
            obtain ⟨b, kk, rfl, hbl, hr⟩ := isC_at (HL2.out.below hbw) j x hx
            have hjj : (j : Int) < (M.length : Int) := by omega
            have hH : ∀ W, Below wr.heap.size wr W → HeldH10 (w.heap.size + 1) p.row b (kk + j * 19) x.1.row x.1.len W := fun W hW => ⟨rangeAll ((HP2.out.up hbw).up hW), fun i v hv => (hW.cell (p := ⟨b, kk + j * 19 + i, none⟩) hbl).trans (range_pre hr i v hv), (hW.cell (p := ⟨b, kk + j * 19 + 17, none⟩) hbl).trans (range_pre hr 17 _ (row_plen hx16))⟩
            have HH := Lib.hid hH
            have HR := Lib.hid (fun W (hW : Below wr.heap.size wr W) i v (hv : (itF x)[i]? = some v) => (hW.cell (p := ⟨b, kk + j * 19 + i, none⟩) hbl).trans (hr i v hv))
            have HX16 := Lib.hid hx16
            have HQ := Lib.hid (fun W => qcovers_any x.1 p W hx16 HP.out)
            have htf := take_filter (f := lenF p (k : Int)) hx
            have ebf : lenF p (k : Int) x = (decide (x.1.len = (k : Int)) && covP x.1 p) := rfl
            rw [ebf] at htf
            have HLEN := Lib.hid (HSL.out j)
            have HO := Lib.hid hown
            have HBW := Lib.hid hbw
            by_cases hlk : x.1.len = (k : Int)
            · rw [decide_eq_true hlk, Bool.true_and] at htf
              have HTF := Lib.hid htf
              rw [hlk] at HH
              clear hr hx16 hown hbw hx hH htf ebf hlk
              go_wp2
              refine wp_region_noPanic ?_
              refine wp_region_held_drew (S := HeldH10 (w.heap.size + 1) p.row b (kk + j * 19) x.1.row (k : Int)) (by kernel_rfl) (HH.out _ (Below.refl _ _).drew) (fun hHeld => ?_)
              refine held_take (v := ?v159) 0 rfl (by kernel_rfl) (by kernel_rfl) (by kernel_rfl) (fun _ _ _ h => h) (by rfl) ?y159 (by assumption) ?_
              case y159 => (intro w hSw; unfold HeldH10 at hSw; go_simp; (try with_reducible rfl); (try omega))
              simp only [List.setIfInBounds_toArray, List.set_cons_zero, List.set_cons_succ]
              refine held_take (v := ?v162) 1 rfl (by kernel_rfl) (by kernel_rfl) (by kernel_rfl) (fun _ _ _ h => h) (by rfl) ?y162 (by assumption) ?_
              case y162 => (intro w hSw; unfold HeldH10 at hSw; go_simp; (try with_reducible rfl); (try omega))
              simp only [List.setIfInBounds_toArray, List.set_cons_zero, List.set_cons_succ]
              refine held_take (v := ?v165) 2 rfl (by kernel_rfl) (by kernel_rfl) (by kernel_rfl) (fun _ _ _ h => h) (by rfl) ?y165 (by assumption) ?_
              case y165 => (intro w hSw; unfold HeldH10 at hSw; go_simp; (try with_reducible rfl); (try omega))
              simp only [List.setIfInBounds_toArray, List.set_cons_zero, List.set_cons_succ]
              refine held_take (v := ?v168) 3 rfl (by kernel_rfl) (by kernel_rfl) (by kernel_rfl) (fun _ _ _ h => h) (by rfl) ?y168 (by assumption) ?_
              case y168 => (intro w hSw; unfold HeldH10 at hSw; go_simp; (try with_reducible rfl); (try omega))
              simp only [List.setIfInBounds_toArray, List.set_cons_zero, List.set_cons_succ]
              refine held_take (v := ?v171) 4 rfl (by kernel_rfl) (by kernel_rfl) (by kernel_rfl) (fun _ _ _ h => h) (by rfl) ?y171 (by assumption) ?_
              case y171 => (intro w hSw; unfold HeldH10 at hSw; go_simp; (try with_reducible rfl); (try omega))
              simp only [List.setIfInBounds_toArray, List.set_cons_zero, List.set_cons_succ]
              refine held_take (v := ?v174) 5 rfl (by kernel_rfl) (by kernel_rfl) (by kernel_rfl) (fun _ _ _ h => h) (by rfl) ?y174 (by assumption) ?_
              case y174 => (intro w hSw; unfold HeldH10 at hSw; go_simp; (try with_reducible rfl); (try omega))
              simp only [List.setIfInBounds_toArray, List.set_cons_zero, List.set_cons_succ]
              refine held_take (v := ?v177) 6 rfl (by kernel_rfl) (by kernel_rfl) (by kernel_rfl) (fun _ _ _ h => h) (by rfl) ?y177 (by assumption) ?_
              case y177 => (intro w hSw; unfold HeldH10 at hSw; go_simp; (try with_reducible rfl); (try omega))
              simp only [List.setIfInBounds_toArray, List.set_cons_zero, List.set_cons_succ]
              refine held_take (v := .bool true) 7 rfl (by kernel_rfl) (by kernel_rfl) (by kernel_rfl) (fun _ _ _ h => h) (by rfl) (fun W hSw => (by go_simp)) (by assumption) ?_
              simp only [List.setIfInBounds_toArray, List.set_cons_zero, List.set_cons_succ]
              refine held_take (v := ?v182) 8 rfl (by kernel_rfl) (by kernel_rfl) (by kernel_rfl) (fun _ _ _ h => h) (by rfl) ?y182 (by assumption) ?_
              case y182 => (intro w hSw; unfold HeldH10 at hSw; go_simp; (try with_reducible rfl); (try omega))
              simp only [List.setIfInBounds_toArray, List.set_cons_zero, List.set_cons_succ]
              refine held_take (v := ?v185) 9 rfl (by kernel_rfl) (by kernel_rfl) (by kernel_rfl) (fun _ _ _ h => h) (by rfl) ?y185 (by assumption) ?_
              case y185 => (intro w hSw; unfold HeldH10 at hSw; go_simp; (try with_reducible rfl); (try omega))
              simp only [List.setIfInBounds_toArray, List.set_cons_zero, List.set_cons_succ]
              refine held_take (v := ?v188) 10 rfl (by kernel_rfl) (by kernel_rfl) (by kernel_rfl) (fun _ _ _ h => h) (by rfl) ?y188 (by assumption) ?_
              case y188 => (intro w hSw; unfold HeldH10 at hSw; go_simp; (try with_reducible rfl); (try omega))
              simp only [List.setIfInBounds_toArray, List.set_cons_zero, List.set_cons_succ]
              refine held_take (v := ?v191) 11 rfl (by kernel_rfl) (by kernel_rfl) (by kernel_rfl) (fun _ _ _ h => h) (by rfl) ?y191 (by assumption) ?_
              case y191 => (intro w hSw; unfold HeldH10 at hSw; go_simp; (try with_reducible rfl); (try omega))
              simp only [List.setIfInBounds_toArray, List.set_cons_zero, List.set_cons_succ]
              refine held_take (v := ?v194) 12 rfl (by kernel_rfl) (by kernel_rfl) (by kernel_rfl) (fun _ _ _ h => h) (by rfl) ?y194 (by assumption) ?_
              case y194 => (intro w hSw; unfold HeldH10 at hSw; go_simp; (try with_reducible rfl); (try omega))
              simp only [List.setIfInBounds_toArray, List.set_cons_zero, List.set_cons_succ]
              refine held_take (v := x.1.val) 13 rfl (by kernel_rfl) (by kernel_rfl) (by kernel_rfl) (fun _ _ _ h => h) (by rfl) (fun W hSw => exec_load_any _ (.tmp 39) rfl b (kk + j * 19) x.1.row _ rfl hSw.2.1 Try.underlying25 rfl (pf_infoC HX16.out)) (by assumption) ?_
              simp only [List.setIfInBounds_toArray, List.set_cons_zero, List.set_cons_succ]
              refine held_take (v := p.val) 14 rfl (by kernel_rfl) (by kernel_rfl) (by kernel_rfl) (fun _ _ _ h => h) (by rfl) (fun W hSw => exec_load_any _ (.tmp 3) rfl (w.heap.size + 1) 0 p.row _ rfl hSw.1 Try.underlying25 rfl (pf_infoC HP.out)) (by assumption) ?_
              simp only [List.setIfInBounds_toArray, List.set_cons_zero, List.set_cons_succ]
              refine held_one 15 rfl (by kernel_rfl) (by rfl) (fun K hK => ?_)
              go_simp
              refine (HQ.out _).mono ?_
              rintro e W1 ⟨rfl, b1⟩
              have hb1 : Below wr.heap.size wr W1 := (Below.refl wr.heap.size wr).drew.trans b1
              refine hK.out _ _ (HH.out _ hb1) (fun _ => ?_)
              clear hK K b1 HQ hHeld
              refine held_take (v := ?v208) 16 rfl (by kernel_rfl) (by kernel_rfl) (by kernel_rfl) (fun _ _ _ h => h) (by rfl) ?y208 (by assumption) ?_
              case y208 => (intro w hSw; unfold HeldH10 at hSw; go_simp; (try with_reducible rfl); (try omega))
              simp only [List.setIfInBounds_toArray, List.set_cons_zero, List.set_cons_succ]
              refine wpAnyH_done (by kernel_rfl) ?_ _
              refine NoPanic.normal ?_
              have HB1 := Lib.hid (below_up HBW.out hb1 HBW.out.size)
              have HO1 := Lib.hid (own_below HO.out hb1)
              have HR1 := Lib.hid (fun i v hv => HR.out _ hb1 i v hv)
              have hs1 := HB1.out.size
              have HTF2 := HTF.out
              clear HH HR hb1 HO HBW HTF
              cases hcv : covP x.1 p with
              | false =>
                rw [hcv] at HTF2
                simp only [Bool.false_eq_true, if_false, List.append_nil] at HTF2
                have HT2 := Lib.hid HTF2
                clear HTF2
                go_wp2
                go_roundw
                case rel => exact ⟨j + 1, by omega, by go_num, by rw [HT2.out]; exact HO1.out, HB1.out⟩
                case measure => simp [intOf]; omega
              | true =>
                rw [hcv] at HTF2
                simp only [if_true] at HTF2
                have HT2 := Lib.hid HTF2
                have hbA : Below W1.heap.size W1 (W1.alloc (.cells (itR x.1 x.2).toArray 47)) := (Below.refl _ _).alloc (Nat.le_refl _) _
                have HB3 := Lib.hid (below_up HB1.out hbA HB1.out.size)
                have HO3 := Lib.hid (own_below HO1.out hbA)
                have HI3 := Lib.hid (isC_one (x := x) HX16.out (show Bx (W1.alloc (.cells (itR x.1 x.2).toArray 47)) W1.heap.size 47 (itF x) from Bx.new W1 _ _))
                have hs3 := HB3.out.size
                clear HTF2 hbA HB1 HO1
                go_wp2_with (first
                  | (refine plV rfl (itV x.1 x.2) (exec_load_any _ (.tmp 47) rfl b (kk + j * 19) (itR x.1 x.2) _ rfl HR1.out Try.underlying47 rfl (i_infoC HX16.out x.2)) ?_)
                  | (refine plV rfl (.slice (some ⟨W1.heap.size, 0, none⟩) 1 1) (exec_one_i (.tmp 48) rfl x.1 x.2 HX16.out rfl) ?_)
                  | (at_builtin; refine append_flat rfl (.tmp 44) (.tmp 49) 29 rfl w2.heap.size 47 ti (itV zeroP 0) 40 Try.underlying29 hti htz hts htb rfl (by decide) (by decide) _ _ _ rfl HO3.out (some ⟨W1.heap.size, 0, none⟩) 1 1 [x] rfl HI3.out (itF_ones _) (by have := HLEN.out; simp only [List.length_cons, List.length_nil]; omega) hs3 ?_; intro v4 w4 hown hgr; refine Hid.out ?_))
                refine Lib.hid ?_
                have HB4 := Lib.hid (own_grown HB3.out HO3.out hgr)
                have HO4 : Hid (w4.ownsRow w2.heap.size 47 19 v4 (S ++ (M.take (j + 1)).filter (lenF p (k : Int))).length ((S ++ (M.take (j + 1)).filter (lenF p (k : Int))).flatMap itF)) := Lib.hid (by
                  rw [HT2.out, ← List.append_assoc, List.length_append, List.flatMap_append]
                  exact hown)
                clear hown hgr
                go_wp2
                go_roundw
                case rel => exact ⟨j + 1, by omega, by go_num, HO4.out, HB4.out⟩
                case measure => simp [intOf]; omega
            · rw [decide_eq_false hlk, Bool.false_and] at htf
              simp only [Bool.false_eq_true, if_false, List.append_nil] at htf
              have HTF := Lib.hid htf
              have hlq : (x.1.len == (k : Int)) = false := beq_eq_false_iff_ne.2 hlk
              have HO1 := Lib.hid (own_below HO.out (Below.refl _ _).drew)
              have HB1 := Lib.hid HBW.out.drew
              clear hr hx16 hown hbw hx hH htf ebf hlk HR HQ HO HBW
              generalize x.1.len = y at *
              go_wp2
              refine wp_region_noPanic ?_
              refine wp_region_held_drew (S := HeldH10 (w.heap.size + 1) p.row b (kk + j * 19) x.1.row y) (by kernel_rfl) (HH.out _ (Below.refl _ _).drew) (fun hHeld => ?_)
              refine held_take (v := ?v264) 0 rfl (by kernel_rfl) (by kernel_rfl) (by kernel_rfl) (fun _ _ _ h => h) (by rfl) ?y264 (by assumption) ?_
              case y264 => (intro w hSw; unfold HeldH10 at hSw; go_simp; (try with_reducible rfl); (try omega))
              simp only [List.setIfInBounds_toArray, List.set_cons_zero, List.set_cons_succ]
              refine held_take (v := ?v267) 1 rfl (by kernel_rfl) (by kernel_rfl) (by kernel_rfl) (fun _ _ _ h => h) (by rfl) ?y267 (by assumption) ?_
              case y267 => (intro w hSw; unfold HeldH10 at hSw; go_simp; (try with_reducible rfl); (try omega))
              simp only [List.setIfInBounds_toArray, List.set_cons_zero, List.set_cons_succ]
              refine held_take (v := ?v270) 2 rfl (by kernel_rfl) (by kernel_rfl) (by kernel_rfl) (fun _ _ _ h => h) (by rfl) ?y270 (by assumption) ?_
              case y270 => (intro w hSw; unfold HeldH10 at hSw; go_simp; (try with_reducible rfl); (try omega))
              simp only [List.setIfInBounds_toArray, List.set_cons_zero, List.set_cons_succ]
              refine held_take (v := ?v273) 3 rfl (by kernel_rfl) (by kernel_rfl) (by kernel_rfl) (fun _ _ _ h => h) (by rfl) ?y273 (by assumption) ?_
              case y273 => (intro w hSw; unfold HeldH10 at hSw; go_simp; (try with_reducible rfl); (try omega))
              simp only [List.setIfInBounds_toArray, List.set_cons_zero, List.set_cons_succ]
              refine held_take (v := ?v276) 4 rfl (by kernel_rfl) (by kernel_rfl) (by kernel_rfl) (fun _ _ _ h => h) (by rfl) ?y276 (by assumption) ?_
              case y276 => (intro w hSw; unfold HeldH10 at hSw; go_simp; (try with_reducible rfl); (try omega))
              simp only [List.setIfInBounds_toArray, List.set_cons_zero, List.set_cons_succ]
              refine held_take (v := ?v279) 5 rfl (by kernel_rfl) (by kernel_rfl) (by kernel_rfl) (fun _ _ _ h => h) (by rfl) ?y279 (by assumption) ?_
              case y279 => (intro w hSw; unfold HeldH10 at hSw; go_simp; (try with_reducible rfl); (try omega))
              simp only [List.setIfInBounds_toArray, List.set_cons_zero, List.set_cons_succ]
              refine held_take (v := ?v282) 6 rfl (by kernel_rfl) (by kernel_rfl) (by kernel_rfl) (fun _ _ _ h => h) (by rfl) ?y282 (by assumption) ?_
              case y282 => (intro w hSw; unfold HeldH10 at hSw; go_simp; (try with_reducible rfl); (try omega))
              simp only [List.setIfInBounds_toArray, List.set_cons_zero, List.set_cons_succ]
              refine held_take (v := .bool false) 7 rfl (by kernel_rfl) (by kernel_rfl) (by kernel_rfl) (fun _ _ _ h => h) (by rfl) (fun W hSw => (by go_simp)) (by assumption) ?_
              simp only [List.setIfInBounds_toArray, List.set_cons_zero, List.set_cons_succ]
              refine held_take (v := ?v287) 8 rfl (by kernel_rfl) (by kernel_rfl) (by kernel_rfl) (fun _ _ _ h => h) (by rfl) ?y287 (by assumption) ?_
              case y287 => (intro w hSw; unfold HeldH10 at hSw; go_simp; (try with_reducible rfl); (try omega))
              simp only [List.setIfInBounds_toArray, List.set_cons_zero, List.set_cons_succ]
              refine held_skip 9 rfl (by kernel_rfl) (by kernel_rfl) (by kernel_rfl) (fun _ _ _ h => h) (by rfl) (by assumption) ?_
              simp only [List.setIfInBounds_toArray, List.set_cons_zero, List.set_cons_succ]
              refine held_skip 10 rfl (by kernel_rfl) (by kernel_rfl) (by kernel_rfl) (fun _ _ _ h => h) (by rfl) (by assumption) ?_
              simp only [List.setIfInBounds_toArray, List.set_cons_zero, List.set_cons_succ]
              refine held_skip 11 rfl (by kernel_rfl) (by kernel_rfl) (by kernel_rfl) (fun _ _ _ h => h) (by rfl) (by assumption) ?_
              simp only [List.setIfInBounds_toArray, List.set_cons_zero, List.set_cons_succ]
              refine held_skip 12 rfl (by kernel_rfl) (by kernel_rfl) (by kernel_rfl) (fun _ _ _ h => h) (by rfl) (by assumption) ?_
              simp only [List.setIfInBounds_toArray, List.set_cons_zero, List.set_cons_succ]
              refine held_skip 13 rfl (by kernel_rfl) (by kernel_rfl) (by kernel_rfl) (fun _ _ _ h => h) (by rfl) (by assumption) ?_
              simp only [List.setIfInBounds_toArray, List.set_cons_zero, List.set_cons_succ]
              refine held_skip 14 rfl (by kernel_rfl) (by kernel_rfl) (by kernel_rfl) (fun _ _ _ h => h) (by rfl) (by assumption) ?_
              simp only [List.setIfInBounds_toArray, List.set_cons_zero, List.set_cons_succ]
              refine held_skip 15 rfl (by kernel_rfl) (by kernel_rfl) (by kernel_rfl) (fun _ _ _ h => h) (by rfl) (by assumption) ?_
              simp only [List.setIfInBounds_toArray, List.set_cons_zero, List.set_cons_succ]
              refine held_take (v := ?v304) 16 rfl (by kernel_rfl) (by kernel_rfl) (by kernel_rfl) (fun _ _ _ h => h) (by rfl) ?y304 (by assumption) ?_
              case y304 => (intro w hSw; unfold HeldH10 at hSw; go_simp; (try with_reducible rfl); (try omega))
              simp only [List.setIfInBounds_toArray, List.set_cons_zero, List.set_cons_succ]
              refine wpAnyH_done (by kernel_rfl) ?_ _
              refine NoPanic.normal ?_
              clear hHeld HH
              go_wp2
              go_roundw
              case rel => exact ⟨j + 1, by omega, by go_num, by rw [HTF.out]; exact HO1.out, HB1.out⟩
              case measure => simp [intOf]; omega
end Go.Proofs.Ytgimcapcnidjjaa

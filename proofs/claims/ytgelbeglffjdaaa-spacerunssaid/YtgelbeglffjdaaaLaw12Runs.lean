/- SpaceRuns: any script of areas and blocks is answered as the document's is. -/
import Derived.Test.YtgelbeglffjdaaaRun12
namespace Go.Proofs.Ytgelbeglffjdaaa
open Go Go.RowKit Go.Shelf
attribute [local go_sem] Oper.semAt_some

set_option maxRecDepth 100000 in
set_option maxHeartbeats 8000000 in
theorem runs12_walk (a : Option Addr) (n0 c : Nat) (l : List StpS) (lab : Int) (w : World) (h : IsC stR 6 w (.slice a n0 c) l) (hb1 : -9223372036854775808 ≤ lab) (hb2 : lab ≤ 9223372036854775807) :
    Calls Try.prog 3 #[.slice a n0 c, .int .i64 lab] w fun e w' => e = .returned (.bool true) ∧ Below w.heap.size w w' := by
  have mixed : Try.prog.follows .mixedOrders = true := by kernel_rfl
  have HA := Lib.hid (fun W => awake12 W)
  have HNW := Lib.hid (fun W => new_any W)
  obtain ⟨rfl, hcap, hcm, _⟩ := h.shape
  unfold maxLen at hcm
  have HI := Lib.hid h
  clear h
  by_cases h40 : 40 < l.length
  · have h40i : (40 : Int) < (l.length : Int) := by omega
    go_enter Try.func3, Try.ntmps3
    go_wp2_with (go_at_call 10; refine (HA.out _).mono ?_; rintro e w1 ⟨rfl, b1⟩; refine Hid.out ?_)
    refine Lib.hid ?_
    have HB := Lib.hid b1
    clear b1
    go_wp2
    go_ret
    exact ⟨rfl, HB.out⟩
  have h40i : (l.length : Int) ≤ 40 := by omega
  go_enter Try.func3, Try.ntmps3
  go_wp2_with (go_at_call 10; refine (HA.out _).mono ?_; rintro e w1 ⟨rfl, b1⟩; refine Hid.out ?_)
  refine Lib.hid ?_
  have HB1 := Lib.hid b1
  have HN1 := Lib.hid (HNW.out w1)
  clear b1
  go_wp2_with (go_at_call 11; refine HN1.out.mono ?_; rintro e w2 ⟨rfl, m2, b2⟩; refine Hid.out ?_)
  refine Lib.hid ?_
  have HZ0 := Lib.hid (z12_start HB1.out m2 b2)
  obtain ⟨pt, hpt⟩ : ∃ pt, pt = w1.heap.size := ⟨_, rfl⟩
  rw [← hpt] at HZ0 ⊢
  clear hpt m2 b2 HN1 HB1
  obtain ⟨gw, hgw⟩ : ∃ g, g = w2.heap.size := ⟨_, rfl⟩
  go_wp2
  rw [← hgw] at HZ0 ⊢
  clear hgw
  generalize w2.alloc (.cells #[.int .i64 0, .int .i64 0, .int .i64 0, .int .i64 0, .int .i64 0, .int .i64 0, .slice none 0 0] 31) = w3 at *
  go_loopw [8] (fun i wr => ∃ (j : Nat) (t : SpS) (vl : Value), j ≤ l.length ∧ i = .int .i64 (j : Int) ∧ Hid (t.l.length ≤ j) ∧ Hid (Z12 w pt t [(vl, t.l)] [(gw, 31, rqR t vl)] wr)) (fun i _ => l.length - (intOf i).toNat)
  case atStart => exact ⟨0, newT, .slice none 0 0, Nat.zero_le _, rfl, Lib.hid (Nat.le_refl _), HZ0⟩
  case round =>
    obtain ⟨j, t, vl, hj, rfl, HTJ, HZ⟩ := hrel
    by_cases hlt : j < l.length
    · have hlti : (j : Int) < (l.length : Int) := by omega
      have h0k : (0 : Int) ≤ (j : Int) := by omega
      obtain ⟨x, hx⟩ : ∃ x, l[j]? = some x := ⟨l[j], List.getElem?_eq_getElem hlt⟩
      have HX := Lib.hid hx
      obtain ⟨sb, so, rfl⟩ : ∃ sb so, a = some ⟨sb, so, none⟩ := by
        obtain ⟨_, _, _, h4⟩ := IsC.shape HI.out
        obtain ⟨b, o, e1, e2, _⟩ := h4 (by omega)
        exact ⟨b, o, e1⟩
      clear hx
      go_wp2
      have HZD := Lib.hid (HZ.out.up (Below.refl _ _).drew)
      have hH0 := HZD.out.held (.head _) HI.out HX.out
      refine wp_region_noPanic ?_
      refine wp_region_held_drew (S := HeldRu gw sb (so + j * 6) t vl x) (by kernel_rfl) hH0 (fun hHeld => ?_)
      generalize wr.drew = wd at *
      refine held_take (v := ?v65) 0 rfl (by kernel_rfl) (by kernel_rfl) (by kernel_rfl) (fun _ _ _ h => h) (by rfl) ?y65 (by assumption) ?_
      case y65 => (intro w hSw; unfold HeldRu at hSw; go_simp; (try with_reducible rfl); (try omega))
      simp only [List.setIfInBounds_toArray, List.set_cons_zero, List.set_cons_succ]
      refine held_take (v := rqV t vl) 1 rfl (by kernel_rfl) (by kernel_rfl) (by kernel_rfl) (fun _ _ _ h => h) (by rfl) (fun W hSw => exec_load_any _ (.tmp 7) rfl gw 0 (rqR t vl) _ rfl hSw.1 Try.underlying31 rfl refs_info) (by assumption) ?_
      simp only [List.setIfInBounds_toArray, List.set_cons_zero, List.set_cons_succ]
      refine held_take (v := ?v70) 2 rfl (by kernel_rfl) (by kernel_rfl) (by kernel_rfl) (fun _ _ _ h => h) (by rfl) ?y70 (by assumption) ?_
      case y70 => (intro w hSw; unfold HeldRu at hSw; go_simp; (try with_reducible rfl); (try omega))
      simp only [List.setIfInBounds_toArray, List.set_cons_zero, List.set_cons_succ]
      refine held_take (v := ?v73) 3 rfl (by kernel_rfl) (by kernel_rfl) (by kernel_rfl) (fun _ _ _ h => h) (by rfl) ?y73 (by assumption) ?_
      case y73 => (intro w hSw; unfold HeldRu at hSw; go_simp; (try with_reducible rfl); (try omega))
      simp only [List.setIfInBounds_toArray, List.set_cons_zero, List.set_cons_succ]
      refine held_take (v := .pointer (some ⟨sb, so + j * 6, none⟩)) 4 rfl (by kernel_rfl) (by kernel_rfl) (by kernel_rfl) (fun _ _ _ h => h) (by rfl) (fun W hSw => idx_st _ _ rfl sb so l.length c j rfl rfl hlt) (by assumption) ?_
      simp only [List.setIfInBounds_toArray, List.set_cons_zero, List.set_cons_succ]
      refine held_take (v := stV x) 5 rfl (by kernel_rfl) (by kernel_rfl) (by kernel_rfl) (fun _ _ _ h => h) (by rfl) (fun W hSw => exec_load_any _ (.tmp 41) rfl sb (so + j * 6) (stR x) _ rfl hSw.2 Try.underlying35 rfl st_info) (by assumption) ?_
      simp only [List.setIfInBounds_toArray, List.set_cons_zero, List.set_cons_succ]
      obtain ⟨T, hT⟩ : ∃ T, t.step x = T := ⟨_, rfl⟩
      have HT := Lib.hid hT
      have HTL := Lib.hid (show T.l.length ≤ j + 1 by have := step_len t x; have := HTJ.out; rw [hT] at *; omega)
      have HDO := Lib.hid (fun (W : World) (bs : List (Nat × TypeId × List Value)) (hz : Z12 w pt t [(vl, t.l)] bs W) => z12_do (u := t) hz (.head _) x (by have := HTJ.out; omega) (by have := HTJ.out; omega) hz.wf)
      rw [hT] at HDO
      clear hT hH0
      refine (fun (key : ∀ (v' : Value) (g : Nat) (W : World), Z12 w pt T [(v', T.l), (vl, t.l)] [(g, 31, (rqR newT (.slice none 0 0))), (gw, 31, rqR t vl)] W → (∀ b ∈ ([(gw, 31, rqR t vl)] : List (Nat × TypeId × List Value)), b.1 < g) → (?MM : Value → Nat → World → Prop) v' g W) => ?use) ?rest
      case use =>
        refine wpAnyH_ready (rs := [6, 10]) (by kernel_rfl) (by simp) (AllReadyH.cons rfl (fun K hK => ?_) (AllReadyH.cons rfl (fun K hK => ?_) AllReadyH.nil))
        · rw [if_pos (by rfl)]
          go_simp
          refine (HDO.out _ _ HZD.out).mono ?_
          rintro e w6 ⟨v6, b, rfl, hb, z6⟩
          obtain rfl := hb rfl
          refine hK.out _ _ (z6.held (.head _) HI.out HX.out) (fun _ => ?_)
          (try simp only [Act.put, List.setIfInBounds_toArray, List.set_cons_zero, List.set_cons_succ])
          clear hK K hb
          refine held_take (v := ?v97) 7 rfl (by kernel_rfl) (by kernel_rfl) (by kernel_rfl) (fun _ _ _ h => h) (by rfl) ?y97 (by assumption) ?_
          case y97 => (intro w hSw; unfold HeldRu at hSw; go_simp; (try with_reducible rfl); (try omega))
          simp only [List.setIfInBounds_toArray, List.set_cons_zero, List.set_cons_succ]
          refine held_take (v := ?v100) 8 rfl (by kernel_rfl) (by kernel_rfl) (by kernel_rfl) (fun _ _ _ h => h) (by rfl) ?y100 (by assumption) ?_
          case y100 => (intro w hSw; unfold HeldRu at hSw; go_simp; (try with_reducible rfl); (try omega))
          simp only [List.setIfInBounds_toArray, List.set_cons_zero, List.set_cons_succ]
          refine held_take (v := ?v103) 9 rfl (by kernel_rfl) (by kernel_rfl) (by kernel_rfl) (fun _ _ _ h => h) (by rfl) ?y103 (by assumption) ?_
          case y103 => (intro w hSw; unfold HeldRu at hSw; go_simp; (try with_reducible rfl); (try omega))
          simp only [List.setIfInBounds_toArray, List.set_cons_zero, List.set_cons_succ]
          refine held_one 10 rfl (by kernel_rfl) (by rfl) (fun K hK => ?_)
          go_simp
          have z7 := z6.al 31 (rqR newT (.slice none 0 0))
          refine hK.out _ _ (z7.held (.tail _ (.head _)) HI.out HX.out) (fun _ => ?_)
          (try simp only [Act.put, List.setIfInBounds_toArray, List.set_cons_zero, List.set_cons_succ])
          clear hK K
          rw [show ((rqR newT (.slice none 0 0))).toArray = #[.int .i64 0, .int .i64 0, .int .i64 0, .int .i64 0, .int .i64 0, .int .i64 0, .slice none 0 0] from rfl] at z7
          obtain ⟨g9, hg9⟩ : ∃ g, g = w6.heap.size := ⟨_, rfl⟩
          have hgl := fun b hb => (z6.bx b hb).1.lt
          rw [← hg9] at z7 hgl ⊢
          clear hg9 z6
          generalize w6.alloc (.cells #[.int .i64 0, .int .i64 0, .int .i64 0, .int .i64 0, .int .i64 0, .int .i64 0, .slice none 0 0] 31) = w7 at *
          exact key v6 g9 w7 z7 hgl
        · rw [if_pos (by rfl)]
          go_simp
          have z7 := HZD.out.al 31 (rqR newT (.slice none 0 0))
          refine hK.out _ _ (z7.held (.tail _ (.head _)) HI.out HX.out) (fun _ => ?_)
          (try simp only [Act.put, List.setIfInBounds_toArray, List.set_cons_zero, List.set_cons_succ])
          clear hK K
          rw [show ((rqR newT (.slice none 0 0))).toArray = #[.int .i64 0, .int .i64 0, .int .i64 0, .int .i64 0, .int .i64 0, .int .i64 0, .slice none 0 0] from rfl] at z7
          obtain ⟨g9, hg9⟩ : ∃ g, g = wd.heap.size := ⟨_, rfl⟩
          have hgl := fun b hb => (HZD.out.bx b hb).1.lt
          rw [← hg9] at z7 hgl ⊢
          clear hg9
          generalize wd.alloc (.cells #[.int .i64 0, .int .i64 0, .int .i64 0, .int .i64 0, .int .i64 0, .int .i64 0, .slice none 0 0] 31) = w7 at *
          refine held_one 6 rfl (by kernel_rfl) (by rfl) (fun K hK => ?_)
          go_simp
          refine (HDO.out _ _ z7).mono ?_
          rintro e w6 ⟨v6, b, rfl, hb, z6⟩
          obtain rfl := hb rfl
          refine hK.out _ _ (z6.held (.tail _ (.head _)) HI.out HX.out) (fun _ => ?_)
          (try simp only [Act.put, List.setIfInBounds_toArray, List.set_cons_zero, List.set_cons_succ])
          clear hK K hb
          refine held_take (v := ?v139) 7 rfl (by kernel_rfl) (by kernel_rfl) (by kernel_rfl) (fun _ _ _ h => h) (by rfl) ?y139 (by assumption) ?_
          case y139 => (intro w hSw; unfold HeldRu at hSw; go_simp; (try with_reducible rfl); (try omega))
          simp only [List.setIfInBounds_toArray, List.set_cons_zero, List.set_cons_succ]
          refine held_take (v := ?v142) 8 rfl (by kernel_rfl) (by kernel_rfl) (by kernel_rfl) (fun _ _ _ h => h) (by rfl) ?y142 (by assumption) ?_
          case y142 => (intro w hSw; unfold HeldRu at hSw; go_simp; (try with_reducible rfl); (try omega))
          simp only [List.setIfInBounds_toArray, List.set_cons_zero, List.set_cons_succ]
          refine held_take (v := ?v145) 9 rfl (by kernel_rfl) (by kernel_rfl) (by kernel_rfl) (fun _ _ _ h => h) (by rfl) ?y145 (by assumption) ?_
          case y145 => (intro w hSw; unfold HeldRu at hSw; go_simp; (try with_reducible rfl); (try omega))
          simp only [List.setIfInBounds_toArray, List.set_cons_zero, List.set_cons_succ]
          exact key v6 g9 w6 z6 hgl
      intro v6 g9 w6 z6 hgl
      obtain ⟨a6, c6, hv6, hc6⟩ := IsK.form (z6.isK (.head _))
      subst hv6
      have z8 := z6.put (.head _) (rqR T (.slice a6 T.l.length c6)) (bs' := [(gw, 31, rqR t vl)]) (fun b hb => ⟨.tail _ hb, fun e => by have := hgl b hb; omega⟩)
      refine held_none 11 rfl (by kernel_rfl) (by rfl) (fun K hK => ?_)
      refine wp_of_skip (exec_store_bxK _ (.tmp 9) (.tmp 44) rfl g9 (rqR T (.slice a6 T.l.length c6)) _ rfl rfl (z6.box (.head _)) refs_info rfl (rqR_one _ _ rfl)) ?_
      refine hK.out _ _ (z8.held (.tail _ (.head _)) HI.out HX.out) (fun _ => ?_)
      clear hK K
      refine held_take (v := ?v157) 12 rfl (by kernel_rfl) (by kernel_rfl) (by kernel_rfl) (fun _ _ _ h => h) (by rfl) ?y157 (by assumption) ?_
      case y157 => (intro w hSw; unfold HeldRu at hSw; go_simp; (try with_reducible rfl); (try omega))
      simp only [List.setIfInBounds_toArray, List.set_cons_zero, List.set_cons_succ]
      refine wpAnyH_done (by kernel_rfl) ?_ _
      refine NoPanic.normal ?_
      have HZ8 := Lib.hid z8
      clear z6 z8 hHeld hc6
      generalize w6.setRow g9 (rqR T (.slice a6 T.l.length c6)).toArray = w8 at *
      have hr8 := rangeAll (HZ8.out.box (.head _))
      have hb8 := HZ8.out.box (.tail _ (.head _))
      go_wp2_with (first
        | (refine plV rfl (rqV T (.slice a6 T.l.length c6)) (exec_load_any 31 (.tmp 9) rfl g9 0 (rqR T (.slice a6 T.l.length c6)) _ rfl hr8 Try.underlying31 rfl refs_info) ?_)
        | (refine plS rfl (exec_store_bxK _ (.tmp 7) (.tmp 48) rfl gw (rqR T (.slice a6 T.l.length c6)) _ rfl rfl hb8 refs_info rfl (rqR_one _ _ rfl)) ?_; refine Hid.out ?_))
      refine Lib.hid ?_
      have HZ9 := Lib.hid ((HZ8.out.put (.tail _ (.head _)) (rqR T (.slice a6 T.l.length c6)) (bs' := []) (fun b hb => by cases hb)).less (ds' := [((.slice a6 T.l.length c6 : Value), T.l)]) (fun d hd => by
        rcases List.mem_cons.1 hd with rfl | hd
        · exact .head _
        · cases hd) (fun b hb => hb))
      clear hr8 hb8 HZ8
      generalize w8.setRow gw (rqR T (.slice a6 T.l.length c6)).toArray = w9 at *
      have hl9 : T.l.length ≤ 900 := by have := HTL.out; omega
      have hy := IsT.range (HI.out.below HZ9.out.below) j x HX.out 4 _ rfl
      obtain ⟨⟨O1, O2⟩, hO⟩ : ∃ O, ownB x.s.f T.l = O := ⟨_, rfl⟩
      obtain ⟨vb9, vr9, hM9, _⟩ := HZ9.out.to
      have hc9 := owner_any x.s.f w9 hM9
      rw [hO] at hc9
      have HC9 := Lib.hid hc9
      have HOO := Lib.hid hO
      clear hM9 hc9 hO
      go_wp2_with (go_at_call 13; refine HC9.out.mono ?_; rintro e w10 ⟨rfl, b10⟩; refine Hid.out ?_)
      refine Lib.hid ?_
      have HZA := Lib.hid ((HZ9.out.up b10).up (Below.refl _ _).drew)
      have hcA := rowner_any T (.slice a6 T.l.length c6) x.s.f w10.drew (by omega) (HZA.out.isK (.head _))
      rw [HOO.out] at hcA
      have HCA := Lib.hid hcA
      clear hy b10 HZ9 HC9 hcA
      go_wp2
      refine wp_region_noPanic ?_
      refine wp_region_held_drew (S := HeldOw gw sb (so + j * 6 + 4) T (.slice a6 T.l.length c6) x.s.f) (by kernel_rfl) (HZA.out.heldOw (.head _) HI.out HX.out) (fun hHeld => ?_)
      generalize w10.drew = we at *
      refine held_take (v := rqV T (.slice a6 T.l.length c6)) 0 rfl (by kernel_rfl) (by kernel_rfl) (by kernel_rfl) (fun _ _ _ h => h) (by rfl) (fun W hSw => exec_load_any _ (.tmp 7) rfl gw 0 (rqR T (.slice a6 T.l.length c6)) _ rfl hSw.1 Try.underlying31 rfl refs_info) (by assumption) ?_
      simp only [List.setIfInBounds_toArray, List.set_cons_zero, List.set_cons_succ]
      refine held_take (v := ?v199) 1 rfl (by kernel_rfl) (by kernel_rfl) (by kernel_rfl) (fun _ _ _ h => h) (by rfl) ?y199 (by assumption) ?_
      case y199 => (intro w hSw; unfold HeldOw at hSw; go_simp; (try with_reducible rfl); (try omega))
      simp only [List.setIfInBounds_toArray, List.set_cons_zero, List.set_cons_succ]
      refine held_take (v := ?v202) 2 rfl (by kernel_rfl) (by kernel_rfl) (by kernel_rfl) (fun _ _ _ h => h) (by rfl) ?y202 (by assumption) ?_
      case y202 => (intro w hSw; unfold HeldOw at hSw; go_simp; (try with_reducible rfl); (try omega))
      simp only [List.setIfInBounds_toArray, List.set_cons_zero, List.set_cons_succ]
      refine held_take (v := .pointer (some ⟨sb, so + j * 6, none⟩)) 3 rfl (by kernel_rfl) (by kernel_rfl) (by kernel_rfl) (fun _ _ _ h => h) (by rfl) (fun W hSw => idx_st _ _ rfl sb so l.length c j rfl rfl hlt) (by assumption) ?_
      simp only [List.setIfInBounds_toArray, List.set_cons_zero, List.set_cons_succ]
      refine held_take (v := ?v207) 4 rfl (by kernel_rfl) (by kernel_rfl) (by kernel_rfl) (fun _ _ _ h => h) (by rfl) ?y207 (by assumption) ?_
      case y207 => (intro w hSw; unfold HeldOw at hSw; go_simp; (try with_reducible rfl); (try omega))
      simp only [List.setIfInBounds_toArray, List.set_cons_zero, List.set_cons_succ]
      refine held_take (v := ?v210) 5 rfl (by kernel_rfl) (by kernel_rfl) (by kernel_rfl) (fun _ _ _ h => h) (by rfl) ?y210 (by assumption) ?_
      case y210 => (intro w hSw; unfold HeldOw at hSw; go_simp; (try with_reducible rfl); (try omega))
      simp only [List.setIfInBounds_toArray, List.set_cons_zero, List.set_cons_succ]
      refine held_take (v := .int .i64 x.s.f) 6 rfl (by kernel_rfl) (by kernel_rfl) (by kernel_rfl) (fun _ _ _ h => h) (by rfl) (fun W hSw => (by have hz := hSw.2; go_simp)) (by assumption) ?_
      simp only [List.setIfInBounds_toArray, List.set_cons_zero, List.set_cons_succ]
      refine held_one 7 rfl (by kernel_rfl) (by rfl) (fun K hK => ?_)
      go_simp
      refine HCA.out.mono ?_
      rintro e w11 ⟨rfl, b11⟩
      have HZB := Lib.hid (HZA.out.up b11)
      refine hK.out _ _ (HZB.out.heldOw (.head _) HI.out HX.out) (fun _ => ?_)
      (try simp only [Act.put, List.setIfInBounds_toArray, List.set_cons_zero, List.set_cons_succ])
      clear hK K b11 hHeld HZA HCA
      refine held_take (v := ?v223) 8 rfl (by kernel_rfl) (by kernel_rfl) (by kernel_rfl) (fun _ _ _ h => h) (by rfl) ?y223 (by assumption) ?_
      case y223 => (intro w hSw; unfold HeldOw at hSw; go_simp; (try with_reducible rfl); (try omega))
      simp only [List.setIfInBounds_toArray, List.set_cons_zero, List.set_cons_succ]
      refine held_take (v := ?v226) 9 rfl (by kernel_rfl) (by kernel_rfl) (by kernel_rfl) (fun _ _ _ h => h) (by rfl) ?y226 (by assumption) ?_
      case y226 => (intro w hSw; unfold HeldOw at hSw; go_simp; (try with_reducible rfl); (try omega))
      simp only [List.setIfInBounds_toArray, List.set_cons_zero, List.set_cons_succ]
      refine held_take (v := ?v229) 10 rfl (by kernel_rfl) (by kernel_rfl) (by kernel_rfl) (fun _ _ _ h => h) (by rfl) ?y229 (by assumption) ?_
      case y229 => (intro w hSw; unfold HeldOw at hSw; go_simp; (try with_reducible rfl); (try omega))
      simp only [List.setIfInBounds_toArray, List.set_cons_zero, List.set_cons_succ]
      refine held_take (v := ?v232) 11 rfl (by kernel_rfl) (by kernel_rfl) (by kernel_rfl) (fun _ _ _ h => h) (by rfl) ?y232 (by assumption) ?_
      case y232 => (intro w hSw; unfold HeldOw at hSw; go_simp; (try with_reducible rfl); (try omega))
      simp only [List.setIfInBounds_toArray, List.set_cons_zero, List.set_cons_succ]
      refine held_take (v := ?v235) 12 rfl (by kernel_rfl) (by kernel_rfl) (by kernel_rfl) (fun _ _ _ h => h) (by rfl) ?y235 (by assumption) ?_
      case y235 => (intro w hSw; unfold HeldOw at hSw; go_simp; (try with_reducible rfl); (try omega))
      simp only [List.setIfInBounds_toArray, List.set_cons_zero, List.set_cons_succ]
      refine wpAnyH_done (by kernel_rfl) ?_ _
      refine NoPanic.normal ?_
      go_wp2
      go_roundw
      case rel => exact ⟨j + 1, T, _, by omega, rfl, HTL, HZB⟩
      case measure => simp only [intOf]; omega

    · have hlti : ¬ ((j : Int) < (l.length : Int)) := by omega
      have hl9 : t.l.length ≤ 900 := by have := HTJ.out; omega
      obtain ⟨av, cv, hvl, _⟩ := IsK.form (HZ.out.isK (.head _))
      subst hvl
      obtain ⟨⟨P1, P2⟩, hP⟩ : ∃ O, ownB lab t.l = O := ⟨_, rfl⟩
      obtain ⟨⟨I1, I2⟩, hI2⟩ : ∃ O, t.index lab = O := ⟨_, rfl⟩
      have HP := Lib.hid hP
      have HIX := Lib.hid hI2
      obtain ⟨vb1, vr1, hM1, _⟩ := HZ.out.to
      have hc1 := owner_any lab wr hM1
      rw [hP] at hc1
      have HC1 := Lib.hid hc1
      have HLB := Lib.hid (And.intro hb1 hb2)
      have HL9 := Lib.hid hl9
      clear hM1 hc1 hP hI2 hb1 hb2 hl9
      go_wp2_with (go_at_call 13; refine HC1.out.mono ?_; rintro e w4 ⟨rfl, b4⟩; refine Hid.out ?_)
      refine Lib.hid ?_
      have HZ4 := Lib.hid (HZ.out.up b4)
      have hr4 := rangeAll (HZ4.out.box (.head _))
      have hc4 := rowner_any t (.slice av t.l.length cv) lab w4 (by have := HL9.out; omega) (HZ4.out.isK (.head _))
      rw [HP.out] at hc4
      have HC4 := Lib.hid hc4
      clear b4 hc4 HC1
      go_wp2_with (first
        | (refine plV rfl (rqV t (.slice av t.l.length cv)) (exec_load_any 31 (.tmp 7) rfl gw 0 (rqR t (.slice av t.l.length cv)) _ rfl hr4 Try.underlying31 rfl refs_info) ?_)
        | (go_at_call 14; refine HC4.out.mono ?_; rintro e w5 ⟨rfl, b5⟩; refine Hid.out ?_))
      refine Lib.hid ?_
      have HZ5 := Lib.hid (HZ4.out.up b5)
      obtain ⟨vb5, vr5, hM5, _⟩ := HZ5.out.to
      have hc5 := index_any lab HLB.out w5 hM5
      rw [HIX.out] at hc5
      have HC5 := Lib.hid hc5
      clear b5 hr4 hM5 hc5 HC4 HZ4
      go_wp2_with (go_at_call 15; refine HC5.out.mono ?_; rintro e w6 ⟨rfl, b6⟩; refine Hid.out ?_)
      refine Lib.hid ?_
      have HZ6 := Lib.hid (HZ5.out.up b6)
      have hr6 := rangeAll (HZ6.out.box (.head _))
      have hc6 := rindex_any t (.slice av t.l.length cv) lab HLB.out HZ6.out.wf w6
      rw [HIX.out] at hc6
      have HC6 := Lib.hid hc6
      clear b6 hc6 HC5 HZ5
      go_wp2_with (first
        | (refine plV rfl (rqV t (.slice av t.l.length cv)) (exec_load_any 31 (.tmp 7) rfl gw 0 (rqR t (.slice av t.l.length cv)) _ rfl hr6 Try.underlying31 rfl refs_info) ?_)
        | (go_at_call 16; refine HC6.out.mono ?_; rintro e w7 ⟨rfl, b7⟩; refine Hid.out ?_))
      refine Lib.hid ?_
      have HZ7 := Lib.hid (HZ6.out.up b7)
      have hr7 := rangeAll (HZ7.out.box (.head _))
      obtain ⟨vb7, vr7, hM7, _⟩ := HZ7.out.to
      have HC7 := Lib.hid (same_eq w7 hM7 (HZ7.out.isK (.head _)))
      clear b7 hr6 hM7 HC6 HZ6
      go_wp2_with (first
        | (refine plV rfl (rqV t (.slice av t.l.length cv)) (exec_load_any 31 (.tmp 7) rfl gw 0 (rqR t (.slice av t.l.length cv)) _ rfl hr7 Try.underlying31 rfl refs_info) ?_)
        | (go_at_call 17; refine HC7.out.mono ?_; rintro e w8 ⟨rfl, b8⟩; refine Hid.out ?_))
      refine Lib.hid ?_
      have HF := Lib.hid (HZ7.out.up b8).below
      clear b8 hr7 HC7 HZ7
      go_wp2
      go_ret
      exact ⟨by cases I2 <;> simp, HF.out⟩
end Go.Proofs.Ytgelbeglffjdaaa

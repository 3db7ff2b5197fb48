/- The document's spans: Cut. -/
import Derived.Test.YthmcgignejofiaaRs5
import Derived.Test.YthmcgignejofiaaSp6
namespace Go.Proofs.Ythmcgignejofiaa
open Go Go.RowKit Go.Shelf

theorem fill_sp2 (p q : Spn) (z : Array Value) (hz : z.size = 4) : Instr.fill (fun i => some (i * 2, 2)) z [(0, sV p), (1, sV q)] = some (sR p ++ sR q).toArray := by
  obtain ⟨z⟩ := z
  match z, hz with
  | [z0, z1, z2, z3], _ => rfl
theorem exec_two_sp {ρ : Operand → Value} {o : Oper} {w : World} (x y : Operand) (ho : o.op = .buildSlice 22 2 #[(0, x), (1, y)]) (p q : Spn) (hx : ρ x = sV p) (hy : ρ y = sV q) (b : Nat) (hb : w.heap.size = b) :
    (execOp ρ o).run Try.prog w = .ok (.value (.slice (some ⟨b, 0, none⟩) 2 2)) (w.alloc (.cells (sR p ++ sR q).toArray 24)) := by
  subst hb
  obtain ⟨i, hi, hz, hs, _⟩ := info_parts sp_infoF
  have := run_buildSlice (P := Try.prog) w 22 24 2 #[(0, sV p), (1, sV q)] (sR p ++ sR q).toArray i (sV ⟨0, 0⟩) Try.underlying22 hi hz (by rw [hs]; decide) (by rw [hs]; decide) (by rw [hs]; exact fill_sp2 p q _ (by simp))
  unfold execOp
  simp only [ho, List.map_toArray, List.map_cons, List.map_nil, hx, hy, Sem.run_bind, this, Result.andThen_ok, Sem.run_pure]
theorem partS_len (s x : Spn) : (partS s x).length = 2 := rfl
theorem parts_len (s : Spn) (m : List Spn) : (m.flatMap (partS s)).length = m.length * 2 := by
  induction m with
  | nil => rfl
  | cons x m ih => rw [List.flatMap_cons, List.length_append, ih, partS_len, List.length_cons]; omega
theorem HeldR.up {b k g : Nat} {x s : Spn} {W W' : World} (h : HeldR b k g x s W) (hb : b < W.heap.size) (hg : g < W.heap.size) (hB : Below W.heap.size W W') : HeldR b k g x s W' :=
  ⟨(hB.cell (p := ⟨b, k, none⟩) hb).trans h.1, (hB.cell (p := ⟨b, k + 1, none⟩) hb).trans h.2.1, (hB.cell (p := ⟨g, 0, none⟩) hg).trans h.2.2.1, (hB.cell (p := ⟨g, 1, none⟩) hg).trans h.2.2.2⟩
set_option maxRecDepth 100000 in
set_option maxHeartbeats 4000000 in
theorem rcut_any (v : Value) (l : List Spn) (s : Spn) (w : World) (h : IsS w v l) (hN : l.length ≤ 50000) :
    Calls Try.prog 15 #[v, sV s] w fun e w' => ∃ v', e = .returned v' ∧ IsS w' v' (cutS l s) ∧ Below w.heap.size w w' := by
  obtain ⟨a, c, rfl, hc⟩ := h.form
  have hb0 : Below w.heap.size w (w.alloc (.cells (sR s).toArray 24)) := (Below.refl _ _).alloc (Nat.le_refl _) _
  have HB0 := Lib.hid hb0
  have HX0 := Lib.hid (Bx.new w 24 (sR s))
  have HI0 := Lib.hid (h.below hb0)
  have HT := Lib.hid (fun W (hW : IsS W (.slice a l.length c) l) => rnorm_any _ l W hW (by omega))
  have hml := normS_length_le l
  obtain ⟨r, hr⟩ : ∃ r, cutS l s = r := ⟨_, rfl⟩
  have HC := Lib.hid (show r = if mayB s = true then normS ((normS l).flatMap (partS s)) else normS l from hr.symm)
  have HNORM := Lib.hid (norm_ok l).1
  rw [hr]
  generalize normS l = m at HT HC hml HNORM
  obtain ⟨ok, hok⟩ : ∃ ok, mayB s = ok := ⟨_, rfl⟩
  have hmx := fun W => rmay_any s W
  have HMAY := Lib.hid (show ok = true → mayS s from fun h => (mayB_iff s).1 (hok.trans h))
  rw [hok] at hmx HC
  have HMX := Lib.hid hmx
  rw [show sV s = .agg (sR s).toArray from rfl]
  have e0 : (sR s)[0]? = some (.int .i64 s.f) := rfl
  have e1 : (sR s)[1]? = some (.int .i64 s.l) := rfl
  clear h hb0 hr hok hmx
  go_enter Try.func15, Try.ntmps15
  go_wp2_with (go_at_call 28; refine (HMX.out _).mono ?_; rintro e w1 ⟨rfl, b1⟩; refine Hid.out ?_)
  refine Lib.hid ?_
  have HX1 := Lib.hid (HX0.out.up b1)
  have HI1 := Lib.hid (HI0.out.below b1)
  have HB1 := Lib.hid (below_up HB0.out b1 HB0.out.size)
  clear b1 HX0 HI0 HB0
  go_wp2_with (go_at_call 11; refine (HT.out _ HI1.out).mono ?_; rintro e w2 ⟨v1, rfl, h1, b2⟩; refine Hid.out ?_)
  refine Lib.hid ?_
  obtain ⟨a1, c1, rfl, hc1⟩ := h1.form
  have HS := Lib.hid h1
  have HX2 := Lib.hid (HX1.out.up b2)
  have HB2 := Lib.hid (below_up HB1.out b2 HB1.out.size)
  have hx2 := HX2.out.lt
  clear h1 b2 HX1 HB1 HI1 HT
  cases ok with
  | false =>
    have HR := Lib.hid (show IsS w2 (.slice a1 m.length c1) r by rw [HC.out]; exact HS.out)
    clear HC
    go_wp2
    go_ret
    exact ⟨_, rfl, HR.out, HB2.out⟩
  | true =>
    have hsm := HMAY.out rfl
    unfold mayS at hsm
    have k1 : IntKind.i64.wrap (s.f - 1) = s.f - 1 := by simp [IntKind.wrap, IntKind.bits, IntKind.signed]; omega
    have k2 : IntKind.i64.wrap (s.l + 1) = s.l + 1 := by simp [IntKind.wrap, IntKind.bits, IntKind.signed]; omega
    have HO0 := Lib.hid (World.ownsRow_nil w2 w2.heap.size 24 2 : w2.ownsRow w2.heap.size 24 2 (.slice none 0 0) ((m.take 0).flatMap (partS s)).length (((m.take 0).flatMap (partS s)).flatMap sR))
    clear hsm HMAY
    go_wp2
    go_loopw [7, 8] (fun vo i wr => ∃ k : Nat, k ≤ m.length ∧ i = .int .i64 (k : Int) ∧ Hid (wr.ownsRow w2.heap.size 24 2 vo ((m.take k).flatMap (partS s)).length (((m.take k).flatMap (partS s)).flatMap sR)) ∧ Below w2.heap.size w2 wr) (fun _ i _ => m.length - (intOf i).toNat)
    case atStart => exact ⟨0, Nat.zero_le _, rfl, HO0, Below.refl _ _⟩
    case round =>
      clear HO0
      obtain ⟨k, hk, rfl, HOW, hbel⟩ := hrel
      by_cases hlt : k < m.length
      · have hlti : (k : Int) < (m.length : Int) := by omega
        have h0k : (0 : Int) ≤ (k : Int) := by omega
        obtain ⟨x, hx⟩ : ∃ x, m[k]? = some x := ⟨m[k], List.getElem?_eq_getElem hlt⟩
        obtain ⟨b, o, rfl, hbl⟩ := IsS.place HS.out (by omega)
        have hr := IsS.range (HS.out.below hbel) k x hx
        have hxs := HX2.out.up hbel
        have hrs := rangeAll hxs
        have q1 := rng1 hrs
        simp only [Nat.zero_add] at q1
        have hH : HeldR b (o + k * 2) w.heap.size x s wr.drew := ⟨rng0 hr, rng1 hr, rng0 hrs, q1⟩
        have hr2 := IsS.range HS.out k x hx
        have hrs2 := rangeAll HX2.out
        have q2 := rng1 hrs2
        simp only [Nat.zero_add] at q2
        have hH2 : HeldR b (o + k * 2) w.heap.size x s w2 := ⟨rng0 hr2, rng1 hr2, rng0 hrs2, q2⟩
        have hHU2 := Lib.hid (fun W (hW : Below w2.heap.size w2 W) => hH2.up hbl hx2 hW)
        have hlen := parts_len s (m.take k)
        rw [List.length_take, Nat.min_eq_left hk] at hlen
        have HNX := Lib.hid (show (m.take (k + 1)).flatMap (partS s) = (m.take k).flatMap (partS s) ++ partS s x by rw [take_next hx, List.flatMap_append]; simp)
        have hdr : Below wr.heap.size wr wr.drew := (Below.refl _ _).drew
        have HB3 := Lib.hid (below_up hbel hdr hbel.size)
        have HO3 := Lib.hid (own_below HOW.out hdr)
        have hbw : b < wr.drew.heap.size := Nat.lt_of_lt_of_le hbl hbel.size
        have hgw : w.heap.size < wr.drew.heap.size := Nat.lt_of_lt_of_le hx2 hbel.size
        have hw3 : w2.heap.size ≤ wr.drew.heap.size := hbel.size
        obtain ⟨ti, hti, htz, hts, htb⟩ := info_parts sp_infoF
        have hHU := Lib.hid (fun W (hW : Below wr.drew.heap.size wr.drew W) => hH.up hbw hgw hW)
        clear hx hr hxs hrs q1 hbel hdr HOW hr2 hrs2 q2 hH2
        go_wp2
        refine wp_region_noPanic ?_
        refine wp_region_held_drew (S := HeldR b (o + k * 2) w.heap.size x s) (by kernel_rfl) hH (fun hHeld => ?_)
        clear hH
        generalize wr.drew = wd at *
        refine held_take (v := ?v118) 0 rfl (by kernel_rfl) (by kernel_rfl) (by kernel_rfl) (fun _ _ _ h => h) (by rfl) ?y118 (by assumption) ?_
        case y118 => (intro w hSw; unfold HeldR at hSw; go_simp; (try with_reducible rfl); (try omega))
        simp only [List.setIfInBounds_toArray, List.set_cons_zero, List.set_cons_succ]
        refine held_take (v := ?v121) 1 rfl (by kernel_rfl) (by kernel_rfl) (by kernel_rfl) (fun _ _ _ h => h) (by rfl) ?y121 (by assumption) ?_
        case y121 => (intro w hSw; unfold HeldR at hSw; go_simp; (try with_reducible rfl); (try omega))
        simp only [List.setIfInBounds_toArray, List.set_cons_zero, List.set_cons_succ]
        refine held_take (v := ?v124) 2 rfl (by kernel_rfl) (by kernel_rfl) (by kernel_rfl) (fun _ _ _ h => h) (by rfl) ?y124 (by assumption) ?_
        case y124 => (intro w hSw; unfold HeldR at hSw; go_simp; (try with_reducible rfl); (try omega))
        simp only [List.setIfInBounds_toArray, List.set_cons_zero, List.set_cons_succ]
        refine held_take (v := ?v127) 3 rfl (by kernel_rfl) (by kernel_rfl) (by kernel_rfl) (fun _ _ _ h => h) (by rfl) ?y127 (by assumption) ?_
        case y127 => (intro w hSw; unfold HeldR at hSw; go_simp; (try with_reducible rfl); (try omega))
        simp only [List.setIfInBounds_toArray, List.set_cons_zero, List.set_cons_succ]
        refine held_take (v := ?v130) 4 rfl (by kernel_rfl) (by kernel_rfl) (by kernel_rfl) (fun _ _ _ h => h) (by rfl) ?y130 (by assumption) ?_
        case y130 => (intro w hSw; unfold HeldR at hSw; go_simp; (try with_reducible rfl); (try omega))
        simp only [List.setIfInBounds_toArray, List.set_cons_zero, List.set_cons_succ]
        refine held_take (v := ?v133) 5 rfl (by kernel_rfl) (by kernel_rfl) (by kernel_rfl) (fun _ _ _ h => h) (by rfl) ?y133 (by assumption) ?_
        case y133 => (intro w hSw; unfold HeldR at hSw; go_simp; (try with_reducible rfl); (try omega))
        simp only [List.setIfInBounds_toArray, List.set_cons_zero, List.set_cons_succ]
        refine held_take (v := ?v136) 6 rfl (by kernel_rfl) (by kernel_rfl) (by kernel_rfl) (fun _ _ _ h => h) (by rfl) ?y136 (by assumption) ?_
        case y136 => (intro w hSw; unfold HeldR at hSw; go_simp; (try with_reducible rfl); (try omega))
        simp only [List.setIfInBounds_toArray, List.set_cons_zero, List.set_cons_succ]
        refine held_take (v := ?v139) 7 rfl (by kernel_rfl) (by kernel_rfl) (by kernel_rfl) (fun _ _ _ h => h) (by rfl) ?y139 (by assumption) ?_
        case y139 => (intro w hSw; unfold HeldR at hSw; go_simp; (try with_reducible rfl); (try omega))
        simp only [List.setIfInBounds_toArray, List.set_cons_zero, List.set_cons_succ]
        refine held_take (v := ?v142) 8 rfl (by kernel_rfl) (by kernel_rfl) (by kernel_rfl) (fun _ _ _ h => h) (by rfl) ?y142 (by assumption) ?_
        case y142 => (intro w hSw; unfold HeldR at hSw; go_simp; (try with_reducible rfl); (try omega))
        simp only [List.setIfInBounds_toArray, List.set_cons_zero, List.set_cons_succ]
        refine held_take (v := ?v145) 9 rfl (by kernel_rfl) (by kernel_rfl) (by kernel_rfl) (fun _ _ _ h => h) (by rfl) ?y145 (by assumption) ?_
        case y145 => (intro w hSw; unfold HeldR at hSw; go_simp; (try with_reducible rfl); (try omega))
        simp only [List.setIfInBounds_toArray, List.set_cons_zero, List.set_cons_succ]
        refine held_take (v := ?v148) 10 rfl (by kernel_rfl) (by kernel_rfl) (by kernel_rfl) (fun _ _ _ h => h) (by rfl) ?y148 (by assumption) ?_
        case y148 => (intro w hSw; unfold HeldR at hSw; go_simp; (try with_reducible rfl); (try omega))
        simp only [List.setIfInBounds_toArray, List.set_cons_zero, List.set_cons_succ]
        refine held_take (v := ?v151) 11 rfl (by kernel_rfl) (by kernel_rfl) (by kernel_rfl) (fun _ _ _ h => h) (by rfl) ?y151 (by assumption) ?_
        case y151 => (intro w hSw; unfold HeldR at hSw; go_simp; (try with_reducible rfl); (try omega))
        simp only [List.setIfInBounds_toArray, List.set_cons_zero, List.set_cons_succ]
        refine held_take (v := ?v154) 12 rfl (by kernel_rfl) (by kernel_rfl) (by kernel_rfl) (fun _ _ _ h => h) (by rfl) ?y154 (by assumption) ?_
        case y154 => (intro w hSw; unfold HeldR at hSw; go_simp; (try with_reducible rfl); (try omega))
        simp only [List.setIfInBounds_toArray, List.set_cons_zero, List.set_cons_succ]
        refine held_take (v := .int .i64 (s.f - 1)) 13 rfl (by kernel_rfl) (by kernel_rfl) (by kernel_rfl) (fun _ _ _ h => h) (by rfl) (fun W hSw => (by go_simp; (try exact k1))) (by assumption) ?_
        simp only [List.setIfInBounds_toArray, List.set_cons_zero, List.set_cons_succ]
        refine held_take (v := .int .i64 (min x.l (s.f - 1))) 14 rfl (by kernel_rfl) (by kernel_rfl) (by kernel_rfl) (fun _ _ _ h => h) (by rfl) (fun W hSw => (by go_simp)) (by assumption) ?_
        simp only [List.setIfInBounds_toArray, List.set_cons_zero, List.set_cons_succ]
        refine held_take (v := sV ⟨x.f, min x.l (s.f - 1)⟩) 15 rfl (by kernel_rfl) (by kernel_rfl) (by kernel_rfl) (fun _ _ _ h => h) (by rfl) (fun W hSw => exec_build2 _ 0 1 (.tmp 27) (.tmp 36) rfl _ _ (sR ⟨x.f, min x.l (s.f - 1)⟩) rfl rfl (built_sp2 _ _)) (by assumption) ?_
        simp only [List.setIfInBounds_toArray, List.set_cons_zero, List.set_cons_succ]
        refine held_take (v := ?v163) 16 rfl (by kernel_rfl) (by kernel_rfl) (by kernel_rfl) (fun _ _ _ h => h) (by rfl) ?y163 (by assumption) ?_
        case y163 => (intro w hSw; unfold HeldR at hSw; go_simp; (try with_reducible rfl); (try omega))
        simp only [List.setIfInBounds_toArray, List.set_cons_zero, List.set_cons_succ]
        refine held_take (v := ?v166) 17 rfl (by kernel_rfl) (by kernel_rfl) (by kernel_rfl) (fun _ _ _ h => h) (by rfl) ?y166 (by assumption) ?_
        case y166 => (intro w hSw; unfold HeldR at hSw; go_simp; (try with_reducible rfl); (try omega))
        simp only [List.setIfInBounds_toArray, List.set_cons_zero, List.set_cons_succ]
        refine held_take (v := ?v169) 18 rfl (by kernel_rfl) (by kernel_rfl) (by kernel_rfl) (fun _ _ _ h => h) (by rfl) ?y169 (by assumption) ?_
        case y169 => (intro w hSw; unfold HeldR at hSw; go_simp; (try with_reducible rfl); (try omega))
        simp only [List.setIfInBounds_toArray, List.set_cons_zero, List.set_cons_succ]
        refine held_take (v := ?v172) 19 rfl (by kernel_rfl) (by kernel_rfl) (by kernel_rfl) (fun _ _ _ h => h) (by rfl) ?y172 (by assumption) ?_
        case y172 => (intro w hSw; unfold HeldR at hSw; go_simp; (try with_reducible rfl); (try omega))
        simp only [List.setIfInBounds_toArray, List.set_cons_zero, List.set_cons_succ]
        refine held_take (v := ?v175) 20 rfl (by kernel_rfl) (by kernel_rfl) (by kernel_rfl) (fun _ _ _ h => h) (by rfl) ?y175 (by assumption) ?_
        case y175 => (intro w hSw; unfold HeldR at hSw; go_simp; (try with_reducible rfl); (try omega))
        simp only [List.setIfInBounds_toArray, List.set_cons_zero, List.set_cons_succ]
        refine held_take (v := ?v178) 21 rfl (by kernel_rfl) (by kernel_rfl) (by kernel_rfl) (fun _ _ _ h => h) (by rfl) ?y178 (by assumption) ?_
        case y178 => (intro w hSw; unfold HeldR at hSw; go_simp; (try with_reducible rfl); (try omega))
        simp only [List.setIfInBounds_toArray, List.set_cons_zero, List.set_cons_succ]
        refine held_take (v := ?v181) 22 rfl (by kernel_rfl) (by kernel_rfl) (by kernel_rfl) (fun _ _ _ h => h) (by rfl) ?y181 (by assumption) ?_
        case y181 => (intro w hSw; unfold HeldR at hSw; go_simp; (try with_reducible rfl); (try omega))
        simp only [List.setIfInBounds_toArray, List.set_cons_zero, List.set_cons_succ]
        refine held_take (v := .int .i64 (s.l + 1)) 23 rfl (by kernel_rfl) (by kernel_rfl) (by kernel_rfl) (fun _ _ _ h => h) (by rfl) (fun W hSw => (by go_simp; (try exact k2))) (by assumption) ?_
        simp only [List.setIfInBounds_toArray, List.set_cons_zero, List.set_cons_succ]
        refine held_take (v := .int .i64 (max x.f (s.l + 1))) 24 rfl (by kernel_rfl) (by kernel_rfl) (by kernel_rfl) (fun _ _ _ h => h) (by rfl) (fun W hSw => (by go_simp)) (by assumption) ?_
        simp only [List.setIfInBounds_toArray, List.set_cons_zero, List.set_cons_succ]
        refine held_take (v := ?v188) 25 rfl (by kernel_rfl) (by kernel_rfl) (by kernel_rfl) (fun _ _ _ h => h) (by rfl) ?y188 (by assumption) ?_
        case y188 => (intro w hSw; unfold HeldR at hSw; go_simp; (try with_reducible rfl); (try omega))
        simp only [List.setIfInBounds_toArray, List.set_cons_zero, List.set_cons_succ]
        refine held_take (v := ?v191) 26 rfl (by kernel_rfl) (by kernel_rfl) (by kernel_rfl) (fun _ _ _ h => h) (by rfl) ?y191 (by assumption) ?_
        case y191 => (intro w hSw; unfold HeldR at hSw; go_simp; (try with_reducible rfl); (try omega))
        simp only [List.setIfInBounds_toArray, List.set_cons_zero, List.set_cons_succ]
        refine held_take (v := ?v194) 27 rfl (by kernel_rfl) (by kernel_rfl) (by kernel_rfl) (fun _ _ _ h => h) (by rfl) ?y194 (by assumption) ?_
        case y194 => (intro w hSw; unfold HeldR at hSw; go_simp; (try with_reducible rfl); (try omega))
        simp only [List.setIfInBounds_toArray, List.set_cons_zero, List.set_cons_succ]
        refine held_take (v := ?v197) 28 rfl (by kernel_rfl) (by kernel_rfl) (by kernel_rfl) (fun _ _ _ h => h) (by rfl) ?y197 (by assumption) ?_
        case y197 => (intro w hSw; unfold HeldR at hSw; go_simp; (try with_reducible rfl); (try omega))
        simp only [List.setIfInBounds_toArray, List.set_cons_zero, List.set_cons_succ]
        refine held_take (v := ?v200) 29 rfl (by kernel_rfl) (by kernel_rfl) (by kernel_rfl) (fun _ _ _ h => h) (by rfl) ?y200 (by assumption) ?_
        case y200 => (intro w hSw; unfold HeldR at hSw; go_simp; (try with_reducible rfl); (try omega))
        simp only [List.setIfInBounds_toArray, List.set_cons_zero, List.set_cons_succ]
        refine held_take (v := sV ⟨max x.f (s.l + 1), x.l⟩) 30 rfl (by kernel_rfl) (by kernel_rfl) (by kernel_rfl) (fun _ _ _ h => h) (by rfl) (fun W hSw => exec_build2 _ 0 1 (.tmp 46) (.tmp 51) rfl _ _ (sR ⟨max x.f (s.l + 1), x.l⟩) rfl rfl (built_sp2 _ _)) (by assumption) ?_
        simp only [List.setIfInBounds_toArray, List.set_cons_zero, List.set_cons_succ]
        refine held_one 31 rfl (by kernel_rfl) (by rfl) (fun K hK => ?_)
        refine wp_of_value (exec_two_sp (.tmp 37) (.tmp 52) rfl ⟨x.f, min x.l (s.f - 1)⟩ ⟨max x.f (s.l + 1), x.l⟩ rfl rfl _ rfl) ?_
        have hb4 : Below wd.heap.size wd (wd.alloc (.cells (sR ⟨x.f, min x.l (s.f - 1)⟩ ++ sR ⟨max x.f (s.l + 1), x.l⟩).toArray 24)) := (Below.refl _ _).alloc (Nat.le_refl _) _
        have HBN := Lib.hid (Bx.new wd 24 (sR ⟨x.f, min x.l (s.f - 1)⟩ ++ sR ⟨max x.f (s.l + 1), x.l⟩))
        have HROW := Lib.hid (own_below HO3.out hb4)
        have hs4 : (wd.alloc (.cells (sR ⟨x.f, min x.l (s.f - 1)⟩ ++ sR ⟨max x.f (s.l + 1), x.l⟩).toArray 24)).heap.size = wd.heap.size + 1 := by simp
        have HB4 := Lib.hid (below_up HB3.out hb4 HB3.out.size)
        refine hK.out _ _ (hHU.out _ hb4) (fun _ => ?_)
        simp only [List.setIfInBounds_toArray, List.set_cons_zero, List.set_cons_succ]
        clear hK K
        refine held_one 32 rfl (by kernel_rfl) (by rfl) (fun K hK => ?_)
        refine wp_append_lies _ _ _ 22 rfl w2.heap.size 24 ti (sV ⟨0, 0⟩) 2 16 Try.underlying22 hti htz hts htb rfl (by decide) _ _ _ rfl HROW.out ⟨wd.heap.size, 0, none⟩ 2 2 (sR ⟨x.f, min x.l (s.f - 1)⟩ ++ sR ⟨max x.f (s.l + 1), x.l⟩) rfl rfl (fun j u hj => World.news_of_block HBN.out j u (by simpa using hj)) (fun u hu => by rcases List.mem_append.1 hu with hu | hu <;> exact sR_one _ u hu) (by decide) (by unfold maxLen; omega) (by omega) (by omega) _ rfl ?_
        intro g9 cap9 w9 hown hgr hat hlt9
        have hB9 : Below w2.heap.size w2 w9 := HB4.out.grown hgr (by omega) (fun k e => owned_low HROW.out k e)
        have HO9 := Lib.hid (show w9.ownsRow w2.heap.size 24 2 (.slice (some ⟨g9, 0, none⟩) (((m.take k).flatMap (partS s)).length + 2) cap9) ((m.take (k + 1)).flatMap (partS s)).length (((m.take (k + 1)).flatMap (partS s)).flatMap sR) by
          rw [HNX.out, List.length_append, List.flatMap_append]
          exact hown)
        rw [hlen] at HO9
        have HB9 := Lib.hid hB9
        refine hK.out _ _ (hHU2.out _ hB9) (fun _ => ?_)
        clear hK K hown hgr hat hB9 HROW HBN hHeld
        (try simp only [Act.put, List.setIfInBounds_toArray, List.set_cons_zero, List.set_cons_succ])
        refine held_take (v := ?v227) 33 rfl (by kernel_rfl) (by kernel_rfl) (by kernel_rfl) (fun _ _ _ h => h) (by rfl) ?y227 (by assumption) ?_
        case y227 => (intro w hSw; unfold HeldR at hSw; go_simp; (try with_reducible rfl); (try omega))
        simp only [List.setIfInBounds_toArray, List.set_cons_zero, List.set_cons_succ]
        refine wpAnyH_done (by kernel_rfl) ?_ _
        refine NoPanic.normal ?_
        go_wp2
        go_roundw
        case rel => exact ⟨k + 1, hlt, rfl, HO9, HB9.out⟩
        case measure => simp only [intOf]; omega
      · have hlti : ¬ (k : Int) < (m.length : Int) := by omega
        have how := HOW.out
        rw [List.take_of_length_le (by omega)] at how
        have hi9 : IsS wr u7 (m.flatMap (partS s)) := IsC.of_owned (sR_all _) how
        have hlen := parts_len s m
        obtain ⟨a9, c9, e9, _⟩ := hi9.form
        rw [hlen] at e9
        subst e9
        have HNO := Lib.hid (rnorm_any _ _ wr hi9 (by omega))
        have HBF := Lib.hid (below_up HB2.out hbel HB2.out.size)
        clear how hbel HOW hi9 hlen
        go_wp2_with (go_at_call 11; refine HNO.out.mono ?_; rintro e w4 ⟨v4, rfl, i4, b4⟩; refine Hid.out ?_)
        refine Lib.hid ?_
        have hr4 : normS (m.flatMap (partS s)) = r := by rw [HC.out]; exact (if_pos trivial).symm
        rw [hr4] at i4
        obtain ⟨a4, c4, rfl, _⟩ := i4.form
        have HR := Lib.hid (⟨i4, below_up HBF.out b4 HBF.out.size⟩ : _ ∧ _)
        clear i4 b4 HC hr4
        go_wp2
        go_ret
        exact ⟨_, rfl, HR.out⟩
end Go.Proofs.Ythmcgignejofiaa

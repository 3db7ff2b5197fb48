/- FibApart: what is above a prefix, and what is below it, have nothing in common; one that is none does nothing. -/
import Derived.Test.YtgimcapcnidjjaaH10
namespace Go.Proofs.Ytgimcapcnidjjaa
open Go Go.RowKit

/-! Of none. -/
theorem nput (p : Pfx) (x : Int) (W : World) (hp : p.addr.length = 16) : Calls Try.prog 9 #[.pointer none, p.val, .int .i64 x] W fun e W' => e = .returned (.int .i64 1) ∧ Below W.heap.size W W' := by
  refine (fput p x W (FibQ.nil W 0 0) hp (by omega)).mono ?_
  rintro e W' ⟨rfl, X', _, u⟩
  exact ⟨by unfold fputE rputE; simp, u.below _ (Nat.le_refl _) (fun k hk => hk.elim)⟩
theorem ndel (p : Pfx) (W : World) (hp : p.addr.length = 16) : Calls Try.prog 11 #[.pointer none, p.val] W fun e W' => e = .returned (.int .i64 1) ∧ Below W.heap.size W W' := by
  refine (fdel p W (FibQ.nil W 0 0) hp (by omega)).mono ?_
  rintro e W' ⟨rfl, X', _, u⟩
  exact ⟨by unfold fdelE rdelE; simp, u.below _ (Nat.le_refl _) (fun k hk => hk.elim)⟩
theorem nall (W : World) : Calls Try.prog 20 #[.pointer none] W fun e W' => ∃ va vc, e = .returned (.slice va 0 vc) ∧ Below W.heap.size W W' := by
  refine (fall (FibQ.nil W 0 0) (by omega)).mono ?_
  rintro e W' ⟨va, vc, rfl, _, hb⟩
  exact ⟨va, vc, rfl, hb⟩
theorem nabove (p : Pfx) (W : World) (hp : p.addr.length = 16) : Calls Try.prog 22 #[.pointer none, p.val] W fun e W' => ∃ va vc, e = .returned (.slice va 0 vc) ∧ Below W.heap.size W W' := by
  refine (fabove p (FibQ.nil W 0 0) (by omega) hp).mono ?_
  rintro e W' ⟨va, vc, rfl, _, hb⟩
  exact ⟨va, vc, by unfold abvL; split <;> rfl, hb⟩
theorem nbelow (p : Pfx) (W : World) (hp : p.addr.length = 16) : Calls Try.prog 24 #[.pointer none, p.val] W fun e W' => ∃ va vc, e = .returned (.slice va 0 vc) ∧ Below W.heap.size W W' := by
  refine (fbelow p (FibQ.nil W 0 0) (by omega) hp).mono ?_
  rintro e W' ⟨va, vc, rfl, _, hb⟩
  exact ⟨va, vc, by unfold belL; split <;> rfl, hb⟩
theorem nuses (v : Int) (W : World) : Calls Try.prog 17 #[.pointer none, .int .i64 v] W fun e W' => e = .returned (.int .i64 0) ∧ Below W.heap.size W W' := by
  refine (fuses v (FibQ.nil W 0 0) (by omega)).mono ?_
  rintro e W' ⟨rfl, hb⟩
  exact ⟨rfl, hb⟩
def bothF (p : Pfx) (x : Pfx × Int) : Bool := covP x.1 p || covP p x.1
theorem kind_apart {L : Bool → List (Pfx × Int)} {p : Pfx} (hO : ∀ s, InOrder cmpP (okP s) (L s)) (hp : okP p.six p) : ((kindL L).filter (bothF p)).length = (abvL p (L p.six)).length + (belL p (L p.six)).length := by
  rw [filter_kind (fun s x hx => ((hO s).2 x hx).1) p.six (bothF p) (fun x hx => by unfold bothF; rw [cov_six hx, cov_six (fun e => hx e.symm)]; rfl)]
  have := apart_len hp (L p.six) (hO p.six).2
  unfold abvL belL bothF
  rw [if_pos hp.2.2, if_pos hp.2.2, List.length_reverse]
  exact this
def HeldM10 (B : Nat) (l : List Value) (W : World) : Prop := W.rangeAt B 0 l
def HeldN10 (B b k : Nat) (l m : List Value) (W : World) : Prop := W.rangeAt B 0 l ∧ W.rangeAt b k m
/-- What lies there at last: the prefix, what is above it. -/
structure EndF (w : World) (p : Pfx) (v : Value) (A : List (Pfx × Int)) (W : World) : Prop where
  box : Bx W w.heap.size 25 p.row
  lst : IsC itF 19 W v A
  below : Below w.heap.size w W
theorem EndF.up {w : World} {p : Pfx} {v : Value} {A : List (Pfx × Int)} {W W' : World} (h : EndF w p v A W) (hb : Below W.heap.size W W') : EndF w p v A W' := ⟨h.box.up hb, h.lst.below hb, below_up h.below hb h.below.size⟩
theorem take_both {p : Pfx} {L : List (Pfx × Int)} {j : Nat} {x : Pfx × Int} (h : L[j]? = some x) : ((L.take (j + 1)).filter (bothF p)).length = ((L.take j).filter (bothF p)).length + (if (covP x.1 p || covP p x.1) = true then 1 else 0) := by
  rw [take_filter h, List.length_append]
  congr 1
  show (if bothF p x = true then [x] else []).length = _
  unfold bothF
  split <;> rfl
def HeldO10 (b k k' : Nat) (y z : Int) (W : World) : Prop := W.cell? ⟨b, k + 17, none⟩ = some (.int .i64 y) ∧ W.cell? ⟨b, k' + 17, none⟩ = some (.int .i64 z)
set_option maxRecDepth 100000 in
set_option maxHeartbeats 8000000 in
theorem apart_walk (sa : Option Addr) (sn scap : Nat) (st : List Stp) (p : Pfx) (w : World) (hS : IsC stF 20 w (.slice sa sn scap) st) (hok : ∀ s ∈ st, s.p.addr.length = 16) (hp : p.addr.length = 16) (_h0 : -9223372036854775808 ≤ p.len) (_h1 : p.len ≤ 9223372036854775807) :
    Calls Try.prog 4 #[.slice sa sn scap, p.val] w fun e w' => e = .returned (.bool true) ∧ Below w.heap.size w w' := by
  have HA := Lib.hid (fun W => awake10 W)
  have hb : Below w.heap.size w (w.alloc (.cells p.row.toArray 25)) := (Below.refl _ _).alloc (Nat.le_refl _) _
  have HX := Lib.hid (Bx.new w 25 p.row)
  have HB := Lib.hid hb
  have HSC := Lib.hid hS
  have HOK := Lib.hid hok
  have HP := Lib.hid hp
  have HCH := Lib.hid (fun W => qcheck_any p W hp)
  obtain ⟨rfl, hcap, hcm, _⟩ := hS.shape
  unfold maxLen at hcm
  rw [show p.val = .agg p.row.toArray from rfl]
  clear hS hok hp hb
  by_cases h50 : 50 < st.length
  · have h50i : (50 : Int) < (st.length : Int) := by omega
    have hd50 : decide ((50 : Int) < (st.length : Int)) = true := decide_eq_true h50i
    go_enter Try.func4, Try.ntmps4
    go_wp2_with (go_at_call 6; refine (HA.out _).mono ?_; rintro e w1 ⟨rfl, b1⟩; refine Hid.out ?_)
    refine Lib.hid ?_
    go_wp2
    go_ret
    exact ⟨rfl, below_up HB.out b1 HB.out.size⟩
  have h50i : (st.length : Int) ≤ 50 := by omega
  have hd50 : decide ((50 : Int) < (st.length : Int)) = false := decide_eq_false (by omega)
  cases hck : chkP p with
  | false =>
    rw [hck] at HCH
    simp only [Bool.false_eq_true, if_false] at HCH
    go_enter Try.func4, Try.ntmps4
    go_wp2_with (go_at_call 6; refine (HA.out _).mono ?_; rintro e w1 ⟨rfl, b1⟩; refine Hid.out ?_)
    refine Lib.hid ?_
    have R0 := Lib.hid (rangeAll (HX.out.up b1))
    go_wp2_with (first
      | (refine plV rfl p.val (exec_load_any _ (.tmp 3) rfl w.heap.size 0 p.row _ rfl R0.out Try.underlying25 rfl (pf_infoC HP.out)) ?_)
      | (go_at_call 26; refine (HCH.out _).mono ?_; rintro e w2 ⟨rfl, b2⟩; refine Hid.out ?_))
    refine Lib.hid ?_
    go_wp2
    go_ret
    have hb1 := below_up HB.out b1 HB.out.size
    exact ⟨rfl, below_up hb1 b2 hb1.size⟩
  | true =>
    rw [hck] at HCH
    simp only [if_true] at HCH
    have HN := Lib.hid (fun W => fnew 60 W (by omega) (by omega))
    go_enter Try.func4, Try.ntmps4
    go_wp2_with (go_at_call 6; refine (HA.out _).mono ?_; rintro e w1 ⟨rfl, b1⟩; refine Hid.out ?_)
    refine Lib.hid ?_
    have B1 := Lib.hid (below_up HB.out b1 HB.out.size)
    have X1 := Lib.hid (HX.out.up b1)
    have R0 := Lib.hid (rangeAll X1.out)
    clear HB HX b1
    go_wp2_with (first
      | (refine plV rfl p.val (exec_load_any _ (.tmp 3) rfl w.heap.size 0 p.row _ rfl R0.out Try.underlying25 rfl (pf_infoC HP.out)) ?_)
      | (go_at_call 26; refine (HCH.out _).mono ?_; rintro e w2 ⟨rfl, b2⟩; refine Hid.out ?_))
    refine Lib.hid ?_
    have B2 := Lib.hid (below_up B1.out b2 B1.out.size)
    have X2 := Lib.hid (X1.out.up b2)
    clear B1 X1 R0 b2 HCH
    go_wp2_with (go_at_call 7; refine (HN.out _).mono ?_; rintro e w3 ⟨g, X, rfl, t3, b3, xx3⟩; refine Hid.out ?_)
    refine Lib.hid ?_
    have z3 : RunF w 25 p.row (.pointer (some ⟨g, 0, none⟩)) 60 (fun _ => []) 1 w3 := ⟨X2.out.up b3, ⟨X, t3, fun k hk => by have := xx3 k hk; have := X2.out.lt; omega⟩, below_up B2.out b3 B2.out.size⟩
    clear X2 B2 t3 b3 xx3 HN
    go_wp2
    go_loopw [7] (fun r wr => ∃ i : Nat, i ≤ st.length ∧ r = .int .i64 (i : Int) ∧ RunF w 25 p.row (.pointer (some ⟨g, 0, none⟩)) 60 (putF 60 (st.take i)) (1 + 150 * i) wr) (fun r _ => st.length - (intOf r).toNat)
    case atStart => exact ⟨0, by omega, rfl, z3⟩
    case round =>
      obtain ⟨i, hi, rfl, hz⟩ := hrel
      clear z3
      by_cases hie : i = st.length
      · subst hie
        rw [List.take_length] at hz
        have hN : 1 + 150 * st.length ≤ 400000 := by omega
        generalize putF 60 st = L at *
        generalize 1 + 150 * st.length = N at *
        have hO : ∀ s, InOrder cmpP (okP s) (L s) := hz.order
        have hokp : okP p.six p := ⟨rfl, HP.out, hck⟩
        have HCNT := Lib.hid (kind_apart hO hokp)
        have HFALL : Hid ((abvL p (L p.six)).Pairwise (fun x y => y.1.len < x.1.len)) := Lib.hid (by unfold abvL; rw [if_pos hck]; exact abv_falls (hO p.six) hokp)
        have HLS : Hid ((L p.six).length ≤ 400000) := Lib.hid (by
          obtain ⟨X, h1, _⟩ := hz.tab
          exact Nat.le_trans (h1.len _) hN)
        have HNA : Hid ((abvL p (L p.six)).length ≤ 400000) := Lib.hid (by
          have := HLS.out
          unfold abvL
          rw [if_pos hck, List.length_reverse]
          exact Nat.le_trans (List.length_filter_le _ _) this)
        have HNB : Hid ((belL p (L p.six)).length ≤ 400000) := Lib.hid (by
          have := HLS.out
          unfold belL
          rw [if_pos hck]
          exact Nat.le_trans (List.length_filter_le _ _) this)
        have R5 := Lib.hid (rangeAll hz.box)
        have HAB := Lib.hid (hz.above p HP.out hN)
        have HZ := Lib.hid hz
        have HNN := Lib.hid hN
        clear hO hokp hz hN
        generalize abvL p (L p.six) = A at *
        go_wp2_with (first
          | (refine plV rfl p.val (exec_load_any _ (.tmp 3) rfl w.heap.size 0 p.row _ rfl R5.out Try.underlying25 rfl (pf_infoC HP.out)) ?_)
          | (go_at_call 22; refine HAB.out.mono ?_; rintro e w5 ⟨va, vc, rfl, l5, b5⟩; refine Hid.out ?_))
        refine Lib.hid ?_
        have HZ5 := Lib.hid (HZ.out.up b5)
        have HL5 := Lib.hid l5
        have R6 := Lib.hid (rangeAll HZ5.out.box)
        have HBE := Lib.hid (HZ5.out.below' p HP.out HNN.out)
        clear l5 b5 HZ R5 HAB
        generalize belL p (L p.six) = Bl at *
        go_wp2_with (first
          | (refine plV rfl p.val (exec_load_any _ (.tmp 3) rfl w.heap.size 0 p.row _ rfl R6.out Try.underlying25 rfl (pf_infoC HP.out)) ?_)
          | (go_at_call 24; refine HBE.out.mono ?_; rintro e w6 ⟨ba, bc, rfl, l6, b6⟩; refine Hid.out ?_))
        refine Lib.hid ?_
        have HZ6 := Lib.hid (HZ5.out.up b6)
        have HL6 := Lib.hid (HL5.out.below b6)
        have HBL := Lib.hid l6.shape
        have HALL := Lib.hid (HZ6.out.all HNN.out)
        clear l6 b6 HZ5 HL5 R6 HBE
        have HML : Hid ((kindL L).length ≤ 800000) := Lib.hid (by
          obtain ⟨X, h1, _⟩ := HZ6.out.tab
          have := h1.len false
          have := h1.len true
          have := HNN.out
          rw [kind_len]
          omega)
        generalize kindL L = M at *
        go_wp2_with (go_at_call 20; refine HALL.out.mono ?_; rintro e w7 ⟨ca, cc, rfl, l7, b7⟩; refine Hid.out ?_)
        refine Lib.hid ?_
        have HX7 := Lib.hid (HZ6.out.box.up b7)
        have HB7 := Lib.hid (HZ6.out.up b7).below
        have HLA := Lib.hid (HL6.out.below b7)
        obtain ⟨_, hac, ham, _⟩ := HLA.out.shape
        obtain ⟨_, hbc, hbm, _⟩ := HBL.out
        obtain ⟨_, hcc, hcm7, _⟩ := l7.shape
        unfold maxLen at ham hbm hcm7
        have HLM := Lib.hid l7
        clear l7 b7 HZ6 HL6 HALL HBL
        have HML2 := HML.out
        go_wp2
        go_loopw [11, 12, 13, 14] (fun nv iv _ _ wr => ∃ j : Nat, j ≤ M.length ∧ iv = .int .i64 (j : Int) ∧ nv = .int .i64 (((M.take j).filter (bothF p)).length : Int) ∧ Below w7.heap.size w7 wr) (fun _ iv _ _ _ => M.length - (intOf iv).toNat)
        case atStart => exact ⟨0, by omega, rfl, rfl, Below.refl _ _⟩
        case round =>
          obtain ⟨j, hj, rfl, rfl, hbw⟩ := hrel
          by_cases hje : j = M.length
          · subst hje
            rw [List.take_length, HCNT.out]
            have HEN := Lib.hid (⟨HX7.out.up hbw, HLA.out.below hbw, below_up HB7.out hbw HB7.out.size⟩ : EndF w p (.slice va A.length vc) A wr)
            clear hbw HX7 HB7 HLA HLM HCNT hj
            rw [show ((A.length + Bl.length : Nat) : Int) = (A.length : Int) + (Bl.length : Int) by omega]
            go_wp2
            go_loopw [15] (fun iv wr3 => ∃ j : Nat, 1 ≤ j ∧ iv = .int .i64 (j : Int) ∧ j ≤ A.length + 1 ∧ EndF w p (.slice va A.length vc) A wr3) (fun iv _ => A.length + 1 - (intOf iv).toNat)
            case atStart => exact ⟨1, by omega, rfl, by omega, HEN.out⟩
            case round =>
              obtain ⟨j, hj1, rfl, hj2, hz⟩ := hrel
              clear HEN
              by_cases hlt : j < A.length
              · obtain ⟨j', rfl⟩ : ∃ j', j = j' + 1 := ⟨j - 1, by omega⟩
                obtain ⟨y, hy⟩ : ∃ y, A[j' + 1]? = some y := ⟨_, List.getElem?_eq_getElem hlt⟩
                obtain ⟨z, hzz⟩ : ∃ z, A[j']? = some z := ⟨_, List.getElem?_eq_getElem (by omega)⟩
                have hyz : y.1.len < z.1.len := by
                  have h1 := List.pairwise_iff_getElem.1 HFALL.out j' (j' + 1) (by omega) hlt (by omega)
                  obtain ⟨_, e1⟩ := List.getElem?_eq_some_iff.1 hy
                  obtain ⟨_, e2⟩ := List.getElem?_eq_some_iff.1 hzz
                  rw [e1, e2] at h1
                  exact h1
                have hy16 := itF_addr (hz.lst.1 y (List.mem_of_getElem? hy))
                have hz16 := itF_addr (hz.lst.1 z (List.mem_of_getElem? hzz))
                obtain ⟨b, k, rfl, hbl, r1⟩ := isC_at hz.lst (j' + 1) y hy
                obtain ⟨b', k', e', _, r0⟩ := isC_at hz.lst j' z hzz
                cases e'
                have HH := Lib.hid (⟨range_pre r1 17 _ (row_plen hy16), range_pre r0 17 _ (row_plen hz16)⟩ : HeldO10 b (k + (j' + 1) * 19) (k + j' * 19) y.1.len z.1.len wr.drew)
                have HZD := Lib.hid (hz.up (Below.refl _ _).drew)
                have hlI : ((j' : Int) + 1) < (A.length : Int) := by omega
                have hlI2 : (j' : Int) < (A.length : Int) := by omega
                have hge : decide (z.1.len ≤ y.1.len) = false := decide_eq_false (by omega)
                generalize y.1.len = yl at *
                generalize z.1.len = zl at *
                clear r0 r1 hy hzz hy16 hz16 hz hyz
                go_wp2
                refine wp_region_noPanic ?_
                refine wp_region_held_drew (S := HeldO10 b (k + (j' + 1) * 19) (k + j' * 19) yl zl) (by kernel_rfl) HH.out (fun hHeld => ?_)
                refine held_take (v := ?v234) 0 rfl (by kernel_rfl) (by kernel_rfl) (by kernel_rfl) (fun _ _ _ h => h) (by rfl) ?y234 (by assumption) ?_
                case y234 => (intro w hSw; unfold HeldO10 at hSw; go_simp; (try with_reducible rfl); (try omega))
                simp only [List.setIfInBounds_toArray, List.set_cons_zero, List.set_cons_succ]
                refine held_take (v := ?v237) 1 rfl (by kernel_rfl) (by kernel_rfl) (by kernel_rfl) (fun _ _ _ h => h) (by rfl) ?y237 (by assumption) ?_
                case y237 => (intro w hSw; unfold HeldO10 at hSw; go_simp; (try with_reducible rfl); (try omega))
                simp only [List.setIfInBounds_toArray, List.set_cons_zero, List.set_cons_succ]
                refine held_take (v := .pointer (some ⟨b, k + (j' + 1) * 19, none⟩)) 2 rfl (by kernel_rfl) (by kernel_rfl) (by kernel_rfl) (fun _ _ _ h => h) (by rfl) (fun W hSw => (by go_simp; first | done | omega)) (by assumption) ?_
                simp only [List.setIfInBounds_toArray, List.set_cons_zero, List.set_cons_succ]
                refine held_take (v := ?v242) 3 rfl (by kernel_rfl) (by kernel_rfl) (by kernel_rfl) (fun _ _ _ h => h) (by rfl) ?y242 (by assumption) ?_
                case y242 => (intro w hSw; unfold HeldO10 at hSw; go_simp; (try with_reducible rfl); (try omega))
                simp only [List.setIfInBounds_toArray, List.set_cons_zero, List.set_cons_succ]
                refine held_take (v := ?v245) 4 rfl (by kernel_rfl) (by kernel_rfl) (by kernel_rfl) (fun _ _ _ h => h) (by rfl) ?y245 (by assumption) ?_
                case y245 => (intro w hSw; unfold HeldO10 at hSw; go_simp; (try with_reducible rfl); (try omega))
                simp only [List.setIfInBounds_toArray, List.set_cons_zero, List.set_cons_succ]
                refine held_take (v := ?v248) 5 rfl (by kernel_rfl) (by kernel_rfl) (by kernel_rfl) (fun _ _ _ h => h) (by rfl) ?y248 (by assumption) ?_
                case y248 => (intro w hSw; unfold HeldO10 at hSw; go_simp; (try with_reducible rfl); (try omega))
                simp only [List.setIfInBounds_toArray, List.set_cons_zero, List.set_cons_succ]
                refine held_take (v := ?v251) 6 rfl (by kernel_rfl) (by kernel_rfl) (by kernel_rfl) (fun _ _ _ h => h) (by rfl) ?y251 (by assumption) ?_
                case y251 => (intro w hSw; unfold HeldO10 at hSw; go_simp; (try with_reducible rfl); (try omega))
                simp only [List.setIfInBounds_toArray, List.set_cons_zero, List.set_cons_succ]
                refine held_take (v := ?v254) 7 rfl (by kernel_rfl) (by kernel_rfl) (by kernel_rfl) (fun _ _ _ h => h) (by rfl) ?y254 (by assumption) ?_
                case y254 => (intro w hSw; unfold HeldO10 at hSw; go_simp; (try with_reducible rfl); (try omega))
                simp only [List.setIfInBounds_toArray, List.set_cons_zero, List.set_cons_succ]
                have kw : IntKind.i64.wrap (j' : Int) = (j' : Int) := by rw [IntKind.wrap_i64]; omega
                refine held_take (v := .int .i64 (j' : Int)) 8 rfl (by kernel_rfl) (by kernel_rfl) (by kernel_rfl) (fun _ _ _ h => h) (by rfl) (fun W hSw => (by go_simp; first | done | exact kw)) (by assumption) ?_
                simp only [List.setIfInBounds_toArray, List.set_cons_zero, List.set_cons_succ]
                refine held_take (v := .pointer (some ⟨b, k + j' * 19, none⟩)) 9 rfl (by kernel_rfl) (by kernel_rfl) (by kernel_rfl) (fun _ _ _ h => h) (by rfl) (fun W hSw => (by go_simp; first | done | omega)) (by assumption) ?_
                simp only [List.setIfInBounds_toArray, List.set_cons_zero, List.set_cons_succ]
                refine held_take (v := ?v262) 10 rfl (by kernel_rfl) (by kernel_rfl) (by kernel_rfl) (fun _ _ _ h => h) (by rfl) ?y262 (by assumption) ?_
                case y262 => (intro w hSw; unfold HeldO10 at hSw; go_simp; (try with_reducible rfl); (try omega))
                simp only [List.setIfInBounds_toArray, List.set_cons_zero, List.set_cons_succ]
                refine held_take (v := ?v265) 11 rfl (by kernel_rfl) (by kernel_rfl) (by kernel_rfl) (fun _ _ _ h => h) (by rfl) ?y265 (by assumption) ?_
                case y265 => (intro w hSw; unfold HeldO10 at hSw; go_simp; (try with_reducible rfl); (try omega))
                simp only [List.setIfInBounds_toArray, List.set_cons_zero, List.set_cons_succ]
                refine held_take (v := ?v268) 12 rfl (by kernel_rfl) (by kernel_rfl) (by kernel_rfl) (fun _ _ _ h => h) (by rfl) ?y268 (by assumption) ?_
                case y268 => (intro w hSw; unfold HeldO10 at hSw; go_simp; (try with_reducible rfl); (try omega))
                simp only [List.setIfInBounds_toArray, List.set_cons_zero, List.set_cons_succ]
                refine held_take (v := .bool false) 13 rfl (by kernel_rfl) (by kernel_rfl) (by kernel_rfl) (fun _ _ _ h => h) (by rfl) (fun W hSw => (by go_simp; first | done | omega)) (by assumption) ?_
                simp only [List.setIfInBounds_toArray, List.set_cons_zero, List.set_cons_succ]
                refine wpAnyH_done (by kernel_rfl) ?_ _
                refine NoPanic.normal ?_
                clear hHeld HH
                go_wp2
                go_roundw
                case rel => exact ⟨j' + 1 + 1, by omega, by go_num, by omega, HZD.out⟩
                case measure => simp [intOf]; omega
              · have hge : ¬ (j : Int) < (A.length : Int) := by omega
                have HZ := Lib.hid hz
                have HHP := Lib.hid (fun W (h : EndF w p (.slice va A.length vc) A W) => (rangeAll h.box : HeldM10 w.heap.size p.row W))
                have HPU := Lib.hid (fun W => nput p 1 W HP.out)
                have HDE := Lib.hid (fun W => ndel p W HP.out)
                have HAL := Lib.hid (fun W => nall W)
                have HAB := Lib.hid (fun W => nabove p W HP.out)
                have HBE := Lib.hid (fun W => nbelow p W HP.out)
                have HUS := Lib.hid (fun W => nuses 0 W)
                generalize A.length = na at *
                generalize Bl.length = nb at *
                have hna : (na : Int) ≤ 400000 := by have := HNA.out; omega
                have hnb : (nb : Int) ≤ 400000 := by have := HNB.out; omega
                clear hz
                go_wp2
                refine wp_region_noPanic ?_
                have HZ0 := Lib.hid (HZ.out.up (Below.refl _ _).drew)
                refine wp_region_held_drew (S := HeldM10 w.heap.size p.row) (by kernel_rfl) (HHP.out _ HZ0.out) (fun hHeld => ?_)
                clear HZ
                generalize wr.drew = W0 at *
                refine held_take (v := ?v300) 0 rfl (by kernel_rfl) (by kernel_rfl) (by kernel_rfl) (fun _ _ _ h => h) (by rfl) ?y300 (by assumption) ?_
                case y300 => (intro w hSw; unfold HeldM10 at hSw; go_simp; (try with_reducible rfl); (try omega))
                simp only [List.setIfInBounds_toArray, List.set_cons_zero, List.set_cons_succ]
                refine held_take (v := ?v303) 1 rfl (by kernel_rfl) (by kernel_rfl) (by kernel_rfl) (fun _ _ _ h => h) (by rfl) ?y303 (by assumption) ?_
                case y303 => (intro w hSw; unfold HeldM10 at hSw; go_simp; (try with_reducible rfl); (try omega))
                simp only [List.setIfInBounds_toArray, List.set_cons_zero, List.set_cons_succ]
                refine held_take (v := ?v306) 2 rfl (by kernel_rfl) (by kernel_rfl) (by kernel_rfl) (fun _ _ _ h => h) (by rfl) ?y306 (by assumption) ?_
                case y306 => (intro w hSw; unfold HeldM10 at hSw; go_simp; (try with_reducible rfl); (try omega))
                simp only [List.setIfInBounds_toArray, List.set_cons_zero, List.set_cons_succ]
                refine held_take (v := ?v309) 3 rfl (by kernel_rfl) (by kernel_rfl) (by kernel_rfl) (fun _ _ _ h => h) (by rfl) ?y309 (by assumption) ?_
                case y309 => (intro w hSw; unfold HeldM10 at hSw; go_simp; (try with_reducible rfl); (try omega))
                simp only [List.setIfInBounds_toArray, List.set_cons_zero, List.set_cons_succ]
                refine held_take (v := ?v312) 4 rfl (by kernel_rfl) (by kernel_rfl) (by kernel_rfl) (fun _ _ _ h => h) (by rfl) ?y312 (by assumption) ?_
                case y312 => (intro w hSw; unfold HeldM10 at hSw; go_simp; (try with_reducible rfl); (try omega))
                simp only [List.setIfInBounds_toArray, List.set_cons_zero, List.set_cons_succ]
                have kw : IntKind.i64.wrap ((na : Int) + (nb : Int)) = (na : Int) + (nb : Int) := by rw [IntKind.wrap_i64]; omega
                refine held_take (v := .int .i64 ((na : Int) + (nb : Int))) 5 rfl (by kernel_rfl) (by kernel_rfl) (by kernel_rfl) (fun _ _ _ h => h) (by rfl) (fun W hSw => (by go_simp; first | done | exact kw)) (by assumption) ?_
                simp only [List.setIfInBounds_toArray, List.set_cons_zero, List.set_cons_succ]
                refine held_take (v := .bool true) 6 rfl (by kernel_rfl) (by kernel_rfl) (by kernel_rfl) (fun _ _ _ h => h) (by rfl) (fun W hSw => (by go_simp)) (by assumption) ?_
                simp only [List.setIfInBounds_toArray, List.set_cons_zero, List.set_cons_succ]
                refine held_take (v := ?v320) 7 rfl (by kernel_rfl) (by kernel_rfl) (by kernel_rfl) (fun _ _ _ h => h) (by rfl) ?y320 (by assumption) ?_
                case y320 => (intro w hSw; unfold HeldM10 at hSw; go_simp; (try with_reducible rfl); (try omega))
                simp only [List.setIfInBounds_toArray, List.set_cons_zero, List.set_cons_succ]
                refine held_take (v := ?v323) 8 rfl (by kernel_rfl) (by kernel_rfl) (by kernel_rfl) (fun _ _ _ h => h) (by rfl) ?y323 (by assumption) ?_
                case y323 => (intro w hSw; unfold HeldM10 at hSw; go_simp; (try with_reducible rfl); (try omega))
                simp only [List.setIfInBounds_toArray, List.set_cons_zero, List.set_cons_succ]
                refine held_take (v := p.val) 9 rfl (by kernel_rfl) (by kernel_rfl) (by kernel_rfl) (fun _ _ _ h => h) (by rfl) (fun W hSw => exec_load_any _ (.tmp 3) rfl w.heap.size 0 p.row _ rfl hSw Try.underlying25 rfl (pf_infoC HP.out)) (by assumption) ?_
                simp only [List.setIfInBounds_toArray, List.set_cons_zero, List.set_cons_succ]
                refine held_one 10 rfl (by kernel_rfl) (by rfl) (fun K hK => ?_)
                go_simp
                refine (HPU.out _).mono ?_
                rintro e W1 ⟨rfl, b1⟩
                have HZ1 := Lib.hid (HZ0.out.up b1)
                refine hK.out _ _ (HHP.out _ HZ1.out) (fun _ => ?_)
                clear hK K b1 HZ0 hHeld
                refine held_take (v := ?v335) 11 rfl (by kernel_rfl) (by kernel_rfl) (by kernel_rfl) (fun _ _ _ h => h) (by rfl) ?y335 (by assumption) ?_
                case y335 => (intro w hSw; unfold HeldM10 at hSw; go_simp; (try with_reducible rfl); (try omega))
                simp only [List.setIfInBounds_toArray, List.set_cons_zero, List.set_cons_succ]
                refine held_take (v := ?v338) 12 rfl (by kernel_rfl) (by kernel_rfl) (by kernel_rfl) (fun _ _ _ h => h) (by rfl) ?y338 (by assumption) ?_
                case y338 => (intro w hSw; unfold HeldM10 at hSw; go_simp; (try with_reducible rfl); (try omega))
                simp only [List.setIfInBounds_toArray, List.set_cons_zero, List.set_cons_succ]
                refine held_take (v := ?v341) 13 rfl (by kernel_rfl) (by kernel_rfl) (by kernel_rfl) (fun _ _ _ h => h) (by rfl) ?y341 (by assumption) ?_
                case y341 => (intro w hSw; unfold HeldM10 at hSw; go_simp; (try with_reducible rfl); (try omega))
                simp only [List.setIfInBounds_toArray, List.set_cons_zero, List.set_cons_succ]
                refine held_take (v := ?v344) 14 rfl (by kernel_rfl) (by kernel_rfl) (by kernel_rfl) (fun _ _ _ h => h) (by rfl) ?y344 (by assumption) ?_
                case y344 => (intro w hSw; unfold HeldM10 at hSw; go_simp; (try with_reducible rfl); (try omega))
                simp only [List.setIfInBounds_toArray, List.set_cons_zero, List.set_cons_succ]
                refine held_take (v := p.val) 15 rfl (by kernel_rfl) (by kernel_rfl) (by kernel_rfl) (fun _ _ _ h => h) (by rfl) (fun W hSw => exec_load_any _ (.tmp 3) rfl w.heap.size 0 p.row _ rfl hSw Try.underlying25 rfl (pf_infoC HP.out)) (by assumption) ?_
                simp only [List.setIfInBounds_toArray, List.set_cons_zero, List.set_cons_succ]
                refine held_one 16 rfl (by kernel_rfl) (by rfl) (fun K hK => ?_)
                go_simp
                refine (HDE.out _).mono ?_
                rintro e W2 ⟨rfl, b2⟩
                have HZ2 := Lib.hid (HZ1.out.up b2)
                refine hK.out _ _ (HHP.out _ HZ2.out) (fun _ => ?_)
                clear hK K b2 HZ1
                refine held_take (v := ?v356) 17 rfl (by kernel_rfl) (by kernel_rfl) (by kernel_rfl) (fun _ _ _ h => h) (by rfl) ?y356 (by assumption) ?_
                case y356 => (intro w hSw; unfold HeldM10 at hSw; go_simp; (try with_reducible rfl); (try omega))
                simp only [List.setIfInBounds_toArray, List.set_cons_zero, List.set_cons_succ]
                refine held_take (v := ?v359) 18 rfl (by kernel_rfl) (by kernel_rfl) (by kernel_rfl) (fun _ _ _ h => h) (by rfl) ?y359 (by assumption) ?_
                case y359 => (intro w hSw; unfold HeldM10 at hSw; go_simp; (try with_reducible rfl); (try omega))
                simp only [List.setIfInBounds_toArray, List.set_cons_zero, List.set_cons_succ]
                refine held_take (v := ?v362) 19 rfl (by kernel_rfl) (by kernel_rfl) (by kernel_rfl) (fun _ _ _ h => h) (by rfl) ?y362 (by assumption) ?_
                case y362 => (intro w hSw; unfold HeldM10 at hSw; go_simp; (try with_reducible rfl); (try omega))
                simp only [List.setIfInBounds_toArray, List.set_cons_zero, List.set_cons_succ]
                refine held_take (v := ?v365) 20 rfl (by kernel_rfl) (by kernel_rfl) (by kernel_rfl) (fun _ _ _ h => h) (by rfl) ?y365 (by assumption) ?_
                case y365 => (intro w hSw; unfold HeldM10 at hSw; go_simp; (try with_reducible rfl); (try omega))
                simp only [List.setIfInBounds_toArray, List.set_cons_zero, List.set_cons_succ]
                refine held_take (v := ?v368) 23 rfl (by kernel_rfl) (by kernel_rfl) (by kernel_rfl) (fun _ _ _ h => h) (by rfl) ?y368 (by assumption) ?_
                case y368 => (intro w hSw; unfold HeldM10 at hSw; go_simp; (try with_reducible rfl); (try omega))
                simp only [List.setIfInBounds_toArray, List.set_cons_zero, List.set_cons_succ]
                refine held_take (v := p.val) 24 rfl (by kernel_rfl) (by kernel_rfl) (by kernel_rfl) (fun _ _ _ h => h) (by rfl) (fun W hSw => exec_load_any _ (.tmp 3) rfl w.heap.size 0 p.row _ rfl hSw Try.underlying25 rfl (pf_infoC HP.out)) (by assumption) ?_
                simp only [List.setIfInBounds_toArray, List.set_cons_zero, List.set_cons_succ]
                refine held_take (v := ?v373) 28 rfl (by kernel_rfl) (by kernel_rfl) (by kernel_rfl) (fun _ _ _ h => h) (by rfl) ?y373 (by assumption) ?_
                case y373 => (intro w hSw; unfold HeldM10 at hSw; go_simp; (try with_reducible rfl); (try omega))
                simp only [List.setIfInBounds_toArray, List.set_cons_zero, List.set_cons_succ]
                refine held_take (v := p.val) 29 rfl (by kernel_rfl) (by kernel_rfl) (by kernel_rfl) (fun _ _ _ h => h) (by rfl) (fun W hSw => exec_load_any _ (.tmp 3) rfl w.heap.size 0 p.row _ rfl hSw Try.underlying25 rfl (pf_infoC HP.out)) (by assumption) ?_
                simp only [List.setIfInBounds_toArray, List.set_cons_zero, List.set_cons_succ]
                refine held_take (v := ?v378) 33 rfl (by kernel_rfl) (by kernel_rfl) (by kernel_rfl) (fun _ _ _ h => h) (by rfl) ?y378 (by assumption) ?_
                case y378 => (intro w hSw; unfold HeldM10 at hSw; go_simp; (try with_reducible rfl); (try omega))
                simp only [List.setIfInBounds_toArray, List.set_cons_zero, List.set_cons_succ]
                refine held_one 21 rfl (by kernel_rfl) (by rfl) (fun K hK => ?_)
                go_simp
                refine (HAL.out _).mono ?_
                rintro e W3 ⟨xa, xc, rfl, b3⟩
                have HZ3 := Lib.hid (HZ2.out.up b3)
                refine hK.out _ _ (HHP.out _ HZ3.out) (fun _ => ?_)
                clear hK K b3 HZ2
                refine held_take (v := ?v388) 22 rfl (by kernel_rfl) (by kernel_rfl) (by kernel_rfl) (fun _ _ _ h => h) (by rfl) ?y388 (by assumption) ?_
                case y388 => (intro w hSw; unfold HeldM10 at hSw; go_simp; (try with_reducible rfl); (try omega))
                simp only [List.setIfInBounds_toArray, List.set_cons_zero, List.set_cons_succ]
                refine held_one 25 rfl (by kernel_rfl) (by rfl) (fun K hK => ?_)
                go_simp
                refine (HAB.out _).mono ?_
                rintro e W4 ⟨ya, yc, rfl, b4⟩
                have HZ4 := Lib.hid (HZ3.out.up b4)
                refine hK.out _ _ (HHP.out _ HZ4.out) (fun _ => ?_)
                clear hK K b4 HZ3
                refine held_take (v := ?v398) 26 rfl (by kernel_rfl) (by kernel_rfl) (by kernel_rfl) (fun _ _ _ h => h) (by rfl) ?y398 (by assumption) ?_
                case y398 => (intro w hSw; unfold HeldM10 at hSw; go_simp; (try with_reducible rfl); (try omega))
                simp only [List.setIfInBounds_toArray, List.set_cons_zero, List.set_cons_succ]
                refine held_take (v := ?v401) 27 rfl (by kernel_rfl) (by kernel_rfl) (by kernel_rfl) (fun _ _ _ h => h) (by rfl) ?y401 (by assumption) ?_
                case y401 => (intro w hSw; unfold HeldM10 at hSw; go_simp; (try with_reducible rfl); (try omega))
                simp only [List.setIfInBounds_toArray, List.set_cons_zero, List.set_cons_succ]
                refine held_one 30 rfl (by kernel_rfl) (by rfl) (fun K hK => ?_)
                go_simp
                refine (HBE.out _).mono ?_
                rintro e W5 ⟨za, zc, rfl, b5⟩
                have HZ5 := Lib.hid (HZ4.out.up b5)
                refine hK.out _ _ (HHP.out _ HZ5.out) (fun _ => ?_)
                clear hK K b5 HZ4
                refine held_take (v := ?v411) 31 rfl (by kernel_rfl) (by kernel_rfl) (by kernel_rfl) (fun _ _ _ h => h) (by rfl) ?y411 (by assumption) ?_
                case y411 => (intro w hSw; unfold HeldM10 at hSw; go_simp; (try with_reducible rfl); (try omega))
                simp only [List.setIfInBounds_toArray, List.set_cons_zero, List.set_cons_succ]
                refine held_take (v := ?v414) 32 rfl (by kernel_rfl) (by kernel_rfl) (by kernel_rfl) (fun _ _ _ h => h) (by rfl) ?y414 (by assumption) ?_
                case y414 => (intro w hSw; unfold HeldM10 at hSw; go_simp; (try with_reducible rfl); (try omega))
                simp only [List.setIfInBounds_toArray, List.set_cons_zero, List.set_cons_succ]
                refine held_one 34 rfl (by kernel_rfl) (by rfl) (fun K hK => ?_)
                go_simp
                refine (HUS.out _).mono ?_
                rintro e W6 ⟨rfl, b6⟩
                have HZ6 := Lib.hid (HZ5.out.up b6)
                refine hK.out _ _ (HHP.out _ HZ6.out) (fun _ => ?_)
                clear hK K b6 HZ5
                refine held_take (v := ?v424) 35 rfl (by kernel_rfl) (by kernel_rfl) (by kernel_rfl) (fun _ _ _ h => h) (by rfl) ?y424 (by assumption) ?_
                case y424 => (intro w hSw; unfold HeldM10 at hSw; go_simp; (try with_reducible rfl); (try omega))
                simp only [List.setIfInBounds_toArray, List.set_cons_zero, List.set_cons_succ]
                refine held_take (v := ?v427) 36 rfl (by kernel_rfl) (by kernel_rfl) (by kernel_rfl) (fun _ _ _ h => h) (by rfl) ?y427 (by assumption) ?_
                case y427 => (intro w hSw; unfold HeldM10 at hSw; go_simp; (try with_reducible rfl); (try omega))
                simp only [List.setIfInBounds_toArray, List.set_cons_zero, List.set_cons_succ]
                refine held_take (v := ?v430) 37 rfl (by kernel_rfl) (by kernel_rfl) (by kernel_rfl) (fun _ _ _ h => h) (by rfl) ?y430 (by assumption) ?_
                case y430 => (intro w hSw; unfold HeldM10 at hSw; go_simp; (try with_reducible rfl); (try omega))
                simp only [List.setIfInBounds_toArray, List.set_cons_zero, List.set_cons_succ]
                refine held_take (v := ?v433) 38 rfl (by kernel_rfl) (by kernel_rfl) (by kernel_rfl) (fun _ _ _ h => h) (by rfl) ?y433 (by assumption) ?_
                case y433 => (intro w hSw; unfold HeldM10 at hSw; go_simp; (try with_reducible rfl); (try omega))
                simp only [List.setIfInBounds_toArray, List.set_cons_zero, List.set_cons_succ]
                refine wpAnyH_done (by kernel_rfl) ?_ _
                refine NoPanic.normal ?_
                go_wp2
                go_ret
                exact ⟨rfl, HZ6.out.below⟩
          · have hlt : j < M.length := by omega
            obtain ⟨x, hx⟩ : ∃ x, M[j]? = some x := ⟨_, List.getElem?_eq_getElem hlt⟩
            have hx16 := itF_addr (HLM.out.1 x (List.mem_of_getElem? hx))
            obtain ⟨b, k, rfl, hbl, hr⟩ := isC_at (HLM.out.below hbw) j x hx
            have hjj : (j : Int) < (M.length : Int) := by omega
            have hH : ∀ W, Below wr.heap.size wr W → HeldN10 w.heap.size b (k + j * 19) p.row x.1.row W := fun W hW => ⟨rangeAll ((HX7.out.up hbw).up hW), fun i v hv => (hW.cell (p := ⟨b, k + j * 19 + i, none⟩) hbl).trans (range_pre hr i v hv)⟩
            have HH := Lib.hid hH
            have HX16 := Lib.hid hx16
            have HQ1 := Lib.hid (fun W => qcovers_any x.1 p W hx16 HP.out)
            have HQ2 := Lib.hid (fun W => qcovers_any p x.1 W HP.out hx16)
            have htl := take_both (p := p) hx
            have hle : ((M.take j).filter (bothF p)).length ≤ j := Nat.le_trans (List.length_filter_le _ _) (by rw [List.length_take]; omega)
            have HBW := Lib.hid hbw
            generalize ((M.take j).filter (bothF p)).length = u at *
            generalize covP x.1 p = c1 at *
            generalize covP p x.1 = c2 at *
            have HTL := Lib.hid htl
            clear hr hx16 hbw hx hH htl
            go_wp2
            refine wp_region_noPanic ?_
            refine wp_region_held_drew (S := HeldN10 w.heap.size b (k + j * 19) p.row x.1.row) (by kernel_rfl) (HH.out _ (Below.refl _ _).drew) (fun hHeld => ?_)
            refine held_take (v := ?v462) 0 rfl (by kernel_rfl) (by kernel_rfl) (by kernel_rfl) (fun _ _ _ h => h) (by rfl) ?y462 (by assumption) ?_
            case y462 => (intro w hSw; unfold HeldN10 at hSw; go_simp; (try with_reducible rfl); (try omega))
            simp only [List.setIfInBounds_toArray, List.set_cons_zero, List.set_cons_succ]
            refine held_take (v := ?v465) 1 rfl (by kernel_rfl) (by kernel_rfl) (by kernel_rfl) (fun _ _ _ h => h) (by rfl) ?y465 (by assumption) ?_
            case y465 => (intro w hSw; unfold HeldN10 at hSw; go_simp; (try with_reducible rfl); (try omega))
            simp only [List.setIfInBounds_toArray, List.set_cons_zero, List.set_cons_succ]
            refine held_take (v := ?v468) 2 rfl (by kernel_rfl) (by kernel_rfl) (by kernel_rfl) (fun _ _ _ h => h) (by rfl) ?y468 (by assumption) ?_
            case y468 => (intro w hSw; unfold HeldN10 at hSw; go_simp; (try with_reducible rfl); (try omega))
            simp only [List.setIfInBounds_toArray, List.set_cons_zero, List.set_cons_succ]
            refine held_take (v := ?v471) 3 rfl (by kernel_rfl) (by kernel_rfl) (by kernel_rfl) (fun _ _ _ h => h) (by rfl) ?y471 (by assumption) ?_
            case y471 => (intro w hSw; unfold HeldN10 at hSw; go_simp; (try with_reducible rfl); (try omega))
            simp only [List.setIfInBounds_toArray, List.set_cons_zero, List.set_cons_succ]
            refine held_take (v := x.1.val) 4 rfl (by kernel_rfl) (by kernel_rfl) (by kernel_rfl) (fun _ _ _ h => h) (by rfl) (fun W hSw => exec_load_any _ (.tmp 64) rfl b (k + j * 19) x.1.row _ rfl hSw.2 Try.underlying25 rfl (pf_infoC HX16.out)) (by assumption) ?_
            simp only [List.setIfInBounds_toArray, List.set_cons_zero, List.set_cons_succ]
            refine held_take (v := p.val) 5 rfl (by kernel_rfl) (by kernel_rfl) (by kernel_rfl) (fun _ _ _ h => h) (by rfl) (fun W hSw => exec_load_any _ (.tmp 3) rfl w.heap.size 0 p.row _ rfl hSw.1 Try.underlying25 rfl (pf_infoC HP.out)) (by assumption) ?_
            simp only [List.setIfInBounds_toArray, List.set_cons_zero, List.set_cons_succ]
            refine held_one 6 rfl (by kernel_rfl) (by rfl) (fun K hK => ?_)
            go_simp
            refine (HQ1.out _).mono ?_
            rintro e W1 ⟨rfl, b1⟩
            have HB1 := Lib.hid ((Below.refl wr.heap.size wr).drew.trans b1)
            refine hK.out _ _ (HH.out _ HB1.out) (fun _ => ?_)
            clear hK K b1 HQ1 hHeld
            refine held_take (v := ?v485) 7 rfl (by kernel_rfl) (by kernel_rfl) (by kernel_rfl) (fun _ _ _ h => h) (by rfl) ?y485 (by assumption) ?_
            case y485 => (intro w hSw; unfold HeldN10 at hSw; go_simp; (try with_reducible rfl); (try omega))
            simp only [List.setIfInBounds_toArray, List.set_cons_zero, List.set_cons_succ]
            refine wpAnyH_done (by kernel_rfl) ?_ _
            refine NoPanic.normal ?_
            go_wp2
            refine wp_region_noPanic ?_
            refine wp_region_held_drew (S := HeldN10 w.heap.size b (k + j * 19) p.row x.1.row) (by kernel_rfl) (HH.out _ HB1.out.drew) (fun hHeld => ?_)
            refine held_take (v := p.val) 0 rfl (by kernel_rfl) (by kernel_rfl) (by kernel_rfl) (fun _ _ _ h => h) (by rfl) (fun W hSw => exec_load_any _ (.tmp 3) rfl w.heap.size 0 p.row _ rfl hSw.1 Try.underlying25 rfl (pf_infoC HP.out)) (by assumption) ?_
            simp only [List.setIfInBounds_toArray, List.set_cons_zero, List.set_cons_succ]
            refine held_take (v := ?v495) 1 rfl (by kernel_rfl) (by kernel_rfl) (by kernel_rfl) (fun _ _ _ h => h) (by rfl) ?y495 (by assumption) ?_
            case y495 => (intro w hSw; unfold HeldN10 at hSw; go_simp; (try with_reducible rfl); (try omega))
            simp only [List.setIfInBounds_toArray, List.set_cons_zero, List.set_cons_succ]
            refine held_take (v := ?v498) 2 rfl (by kernel_rfl) (by kernel_rfl) (by kernel_rfl) (fun _ _ _ h => h) (by rfl) ?y498 (by assumption) ?_
            case y498 => (intro w hSw; unfold HeldN10 at hSw; go_simp; (try with_reducible rfl); (try omega))
            simp only [List.setIfInBounds_toArray, List.set_cons_zero, List.set_cons_succ]
            refine held_take (v := ?v501) 3 rfl (by kernel_rfl) (by kernel_rfl) (by kernel_rfl) (fun _ _ _ h => h) (by rfl) ?y501 (by assumption) ?_
            case y501 => (intro w hSw; unfold HeldN10 at hSw; go_simp; (try with_reducible rfl); (try omega))
            simp only [List.setIfInBounds_toArray, List.set_cons_zero, List.set_cons_succ]
            refine held_take (v := ?v504) 4 rfl (by kernel_rfl) (by kernel_rfl) (by kernel_rfl) (fun _ _ _ h => h) (by rfl) ?y504 (by assumption) ?_
            case y504 => (intro w hSw; unfold HeldN10 at hSw; go_simp; (try with_reducible rfl); (try omega))
            simp only [List.setIfInBounds_toArray, List.set_cons_zero, List.set_cons_succ]
            refine held_take (v := x.1.val) 5 rfl (by kernel_rfl) (by kernel_rfl) (by kernel_rfl) (fun _ _ _ h => h) (by rfl) (fun W hSw => exec_load_any _ (.tmp 72) rfl b (k + j * 19) x.1.row _ rfl hSw.2 Try.underlying25 rfl (pf_infoC HX16.out)) (by assumption) ?_
            simp only [List.setIfInBounds_toArray, List.set_cons_zero, List.set_cons_succ]
            refine held_one 6 rfl (by kernel_rfl) (by rfl) (fun K hK => ?_)
            go_simp
            refine (HQ2.out _).mono ?_
            rintro e W2 ⟨rfl, b2⟩
            have HB2 := Lib.hid (HB1.out.drew.trans (b2.mono HB1.out.drew.size))
            refine hK.out _ _ (HH.out _ HB2.out) (fun _ => ?_)
            clear hK K b2 HQ2 hHeld
            refine held_take (v := ?v516) 7 rfl (by kernel_rfl) (by kernel_rfl) (by kernel_rfl) (fun _ _ _ h => h) (by rfl) ?y516 (by assumption) ?_
            case y516 => (intro w hSw; unfold HeldN10 at hSw; go_simp; (try with_reducible rfl); (try omega))
            simp only [List.setIfInBounds_toArray, List.set_cons_zero, List.set_cons_succ]
            refine wpAnyH_done (by kernel_rfl) ?_ _
            refine NoPanic.normal ?_
            have HB3 := Lib.hid (below_up HBW.out HB2.out HBW.out.size)
            clear HB1 HB2 HBW HH
            have htl := HTL.out
            clear HTL
            cases c1 <;> cases c2
            · simp only [Bool.or_false, Bool.false_eq_true, if_false, Nat.add_zero] at htl
              have HT2 := Lib.hid htl
              clear htl
              go_wp2
              go_roundw
              case rel => exact ⟨j + 1, by omega, by go_num, by rw [HT2.out], HB3.out⟩
              case measure => simp [intOf]; omega
            · simp only [Bool.or_true, if_true] at htl
              have HT2 := Lib.hid htl
              clear htl
              go_wp2
              go_roundw
              case rel => exact ⟨j + 1, by omega, by go_num, by rw [HT2.out]; go_num, HB3.out⟩
              case measure => simp [intOf]; omega
            · simp only [Bool.true_or, if_true] at htl
              have HT2 := Lib.hid htl
              clear htl
              go_wp2
              go_roundw
              case rel => exact ⟨j + 1, by omega, by go_num, by rw [HT2.out]; go_num, HB3.out⟩
              case measure => simp [intOf]; omega
            · simp only [Bool.true_or, if_true] at htl
              have HT2 := Lib.hid htl
              clear htl
              go_wp2
              go_roundw
              case rel => exact ⟨j + 1, by omega, by go_num, by rw [HT2.out]; go_num, HB3.out⟩
              case measure => simp [intOf]; omega
      · have hlt : i < st.length := by omega
        obtain ⟨s, hs⟩ : ∃ s, st[i]? = some s := ⟨_, List.getElem?_eq_getElem hlt⟩
        have h16 := HOK.out s (List.mem_of_getElem? hs)
        obtain ⟨b, k, rfl, hbw, q0, q1, q2⟩ := step_at HSC.out i s hs h16
        have hii : (i : Int) < (st.length : Int) := by omega
        have HPU := Lib.hid (fun W (h : RunF w 25 p.row (.pointer (some ⟨g, 0, none⟩)) 60 (putF 60 (st.take i)) (1 + 150 * i) W) => h.put s.p s.v h16 (by omega))
        have hHS : ∀ W, Below w.heap.size w W → HeldS b (k + i * 20) s.p.row s.v W := fun W hW => ⟨fun j v hv => (hW.cell (p := ⟨b, k + i * 20 + 1 + j, none⟩) hbw).trans (q1 j v hv), (hW.cell (p := ⟨b, k + i * 20 + 19, none⟩) hbw).trans q2⟩
        have HHS := Lib.hid hHS
        have H16 := Lib.hid h16
        have HSN := Lib.hid (show putF 60 (st.take (i + 1)) = fputL true 60 (putF 60 (st.take i)) s.p s.v by rw [take_snoc hs, putF_snoc])
        have HZ := Lib.hid hz
        clear hHS h16 q0 q1 q2 hz
        go_wp2
        refine wp_region_noPanic ?_
        refine wp_region_held_drew (S := HeldS b (k + i * 20) s.p.row s.v) (by kernel_rfl) (HHS.out _ HZ.out.below.drew) (fun hHeld => ?_)
        have hz1 := HZ.out.up (Below.refl _ _).drew
        clear HZ
        generalize wr.drew = W1 at *
        refine held_take (v := ?v572) 0 rfl (by kernel_rfl) (by kernel_rfl) (by kernel_rfl) (fun _ _ _ h => h) (by rfl) ?y572 (by assumption) ?_
        case y572 => (intro w hSw; unfold HeldS at hSw; go_simp; (try with_reducible rfl); (try omega))
        simp only [List.setIfInBounds_toArray, List.set_cons_zero, List.set_cons_succ]
        refine held_take (v := ?v575) 1 rfl (by kernel_rfl) (by kernel_rfl) (by kernel_rfl) (fun _ _ _ h => h) (by rfl) ?y575 (by assumption) ?_
        case y575 => (intro w hSw; unfold HeldS at hSw; go_simp; (try with_reducible rfl); (try omega))
        simp only [List.setIfInBounds_toArray, List.set_cons_zero, List.set_cons_succ]
        refine held_take (v := ?v578) 2 rfl (by kernel_rfl) (by kernel_rfl) (by kernel_rfl) (fun _ _ _ h => h) (by rfl) ?y578 (by assumption) ?_
        case y578 => (intro w hSw; unfold HeldS at hSw; go_simp; (try with_reducible rfl); (try omega))
        simp only [List.setIfInBounds_toArray, List.set_cons_zero, List.set_cons_succ]
        refine held_take (v := ?v581) 3 rfl (by kernel_rfl) (by kernel_rfl) (by kernel_rfl) (fun _ _ _ h => h) (by rfl) ?y581 (by assumption) ?_
        case y581 => (intro w hSw; unfold HeldS at hSw; go_simp; (try with_reducible rfl); (try omega))
        simp only [List.setIfInBounds_toArray, List.set_cons_zero, List.set_cons_succ]
        refine held_take (v := ?v584) 4 rfl (by kernel_rfl) (by kernel_rfl) (by kernel_rfl) (fun _ _ _ h => h) (by rfl) ?y584 (by assumption) ?_
        case y584 => (intro w hSw; unfold HeldS at hSw; go_simp; (try with_reducible rfl); (try omega))
        simp only [List.setIfInBounds_toArray, List.set_cons_zero, List.set_cons_succ]
        refine held_take (v := s.p.val) 5 rfl (by kernel_rfl) (by kernel_rfl) (by kernel_rfl) (fun _ _ _ h => h) (by rfl) (fun W hSw => exec_load_any _ (.tmp 39) rfl b (k + i * 20 + 1) s.p.row _ rfl hSw.1 Try.underlying25 rfl (pf_infoC H16.out)) (by assumption) ?_
        simp only [List.setIfInBounds_toArray, List.set_cons_zero, List.set_cons_succ]
        refine held_take (v := ?v589) 6 rfl (by kernel_rfl) (by kernel_rfl) (by kernel_rfl) (fun _ _ _ h => h) (by rfl) ?y589 (by assumption) ?_
        case y589 => (intro w hSw; unfold HeldS at hSw; go_simp; (try with_reducible rfl); (try omega))
        simp only [List.setIfInBounds_toArray, List.set_cons_zero, List.set_cons_succ]
        refine held_take (v := ?v592) 7 rfl (by kernel_rfl) (by kernel_rfl) (by kernel_rfl) (fun _ _ _ h => h) (by rfl) ?y592 (by assumption) ?_
        case y592 => (intro w hSw; unfold HeldS at hSw; go_simp; (try with_reducible rfl); (try omega))
        simp only [List.setIfInBounds_toArray, List.set_cons_zero, List.set_cons_succ]
        refine held_take (v := ?v595) 8 rfl (by kernel_rfl) (by kernel_rfl) (by kernel_rfl) (fun _ _ _ h => h) (by rfl) ?y595 (by assumption) ?_
        case y595 => (intro w hSw; unfold HeldS at hSw; go_simp; (try with_reducible rfl); (try omega))
        simp only [List.setIfInBounds_toArray, List.set_cons_zero, List.set_cons_succ]
        refine held_take (v := ?v598) 9 rfl (by kernel_rfl) (by kernel_rfl) (by kernel_rfl) (fun _ _ _ h => h) (by rfl) ?y598 (by assumption) ?_
        case y598 => (intro w hSw; unfold HeldS at hSw; go_simp; (try with_reducible rfl); (try omega))
        simp only [List.setIfInBounds_toArray, List.set_cons_zero, List.set_cons_succ]
        refine held_take (v := ?v601) 10 rfl (by kernel_rfl) (by kernel_rfl) (by kernel_rfl) (fun _ _ _ h => h) (by rfl) ?y601 (by assumption) ?_
        case y601 => (intro w hSw; unfold HeldS at hSw; go_simp; (try with_reducible rfl); (try omega))
        simp only [List.setIfInBounds_toArray, List.set_cons_zero, List.set_cons_succ]
        refine held_one 11 rfl (by kernel_rfl) (by rfl) (fun K hK => ?_)
        go_simp
        refine (HPU.out _ hz1).mono ?_
        rintro e w3 ⟨rfl, z3⟩
        refine hK.out _ _ (HHS.out _ z3.below) (fun _ => ?_)
        clear hK K hHeld hz1
        refine wpAnyH_done (by kernel_rfl) ?_ _
        refine NoPanic.normal ?_
        rw [← HSN.out] at z3
        have HZ3 := Lib.hid z3
        clear z3 HPU
        go_wp2
        go_roundw
        case rel => exact ⟨i + 1, by omega, by go_num, by rw [show 1 + 150 * (i + 1) = 1 + 150 * i + 150 by omega]; exact HZ3.out⟩
        case measure => simp [intOf]; omega
end Go.Proofs.Ytgimcapcnidjjaa

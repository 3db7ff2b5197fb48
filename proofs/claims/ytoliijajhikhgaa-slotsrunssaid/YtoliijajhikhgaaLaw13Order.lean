/- SlotsOrder: all that are there are told by rising labels, with their values, and no more than there is room. -/
import Derived.Test.YtoliijajhikhgaaAw13
import Derived.Test.YtoliijajhikhgaaLift13
namespace Go.Proofs.Ytoliijajhikhgaa
open Go Go.RowKit Go.Shelf
attribute [local go_sem] Oper.semAt_some

/-- labels that may be -/
def Rng13 (L : List (Int × Int)) : Prop := ∀ y ∈ L, chk13 y.1 = 0
theorem Rng13.put {L : List (Int × Int)} (h : Rng13 L) (room : Nat) (a v : Int) : Rng13 (putQ room a v L).2 := by
  unfold putQ
  by_cases hc : chk13 a = 0
  · rw [if_pos hc]
    split
    · exact h
    · intro y hy
      unfold put13 at hy
      rcases List.mem_append.1 hy with hy | hy
      · exact h y (List.mem_of_mem_take hy)
      · rcases List.mem_cons.1 hy with rfl | hy
        · exact hc
        · exact h y (List.mem_of_mem_drop hy)
  · rw [if_neg hc]
    exact h
theorem Rng13.del {L : List (Int × Int)} (h : Rng13 L) (a : Int) : Rng13 (delQ a L).2 := by
  unfold delQ
  by_cases hc : chk13 a = 0
  · rw [if_pos hc]
    split
    · intro y hy
      unfold del13 at hy
      rcases List.mem_append.1 hy with hy | hy
      · exact h y (List.mem_of_mem_take hy)
      · exact h y (List.mem_of_mem_drop hy)
    · exact h
  · rw [if_neg hc]
    exact h
theorem putQ_len (room : Nat) (a v : Int) (L : List (Int × Int)) : (putQ room a v L).2.length ≤ L.length + 1 := by
  unfold putQ
  split
  · split
    · exact Nat.le_succ _
    · show (put13 a v L).length ≤ _
      rw [put13_length]
      split <;> omega
  · exact Nat.le_succ _
theorem delQ_len (a : Int) (L : List (Int × Int)) : (delQ a L).2.length ≤ L.length + 1 := by
  unfold delQ
  split
  · split
    · show (del13 a L).length ≤ _
      unfold del13
      rw [List.length_append, List.length_take, List.length_drop]
      omega
    · exact Nat.le_succ _
  · exact Nat.le_succ _
theorem s3R_all (l : List Stp13) : ∀ x ∈ l, (s3R x).length = 3 := fun _ _ => rfl
theorem s3_at {W : World} {a : Option Addr} {n cap : Nat} {l : List Stp13} (h : IsC s3R 3 W (.slice a n cap) l) (j : Nat) (x : Stp13) (hx : l[j]? = some x) : ∃ b k, a = some ⟨b, k, none⟩ ∧ b < W.heap.size ∧ ∀ V, Below W.heap.size W V → V.rangeAt b (k + j * 3) (s3R x) := by
  obtain ⟨rfl, _, _, h3⟩ := h.shape
  have hj := (List.getElem?_eq_some_iff.1 hx).1
  obtain ⟨b, k, e, hb, hc⟩ := h3 (by omega)
  refine ⟨b, k, e, hb, fun V hV i v hv => ?_⟩
  have h4 := flat_range (s3R_all l) hc j x hx i v hv
  exact (hV.cell (p := ⟨b, k + j * 3 + i, none⟩) hb).trans h4
def Held3 (b k : Nat) (x y : Int) (W : World) : Prop := W.cell? ⟨b, k + 1, none⟩ = some (.int .i64 x) ∧ W.cell? ⟨b, k + 2, none⟩ = some (.int .i64 y)
def HeldO1 (b k : Nat) (y : Int × Int) (W : World) : Prop := W.cell? ⟨b, k, none⟩ = some (.int .i64 y.1) ∧ W.cell? ⟨b, k + 1, none⟩ = some (.int .i64 y.2)
def HeldO2 (b k : Nat) (y z : Int × Int) (W : World) : Prop := W.cell? ⟨b, k + 2, none⟩ = some (.int .i64 y.1) ∧ W.cell? ⟨b, k + 2 + 1, none⟩ = some (.int .i64 y.2) ∧ W.cell? ⟨b, k, none⟩ = some (.int .i64 z.1)
set_option maxRecDepth 100000 in
set_option maxHeartbeats 8000000 in
theorem order13_walk (u : Int) (a : Option Addr) (n0 c : Nat) (l : List Stp13) (w : World) (hu0 : 0 ≤ u) (hu1 : u ≤ 255) (h : IsC s3R 3 w (.slice a n0 c) l) :
    Calls Try.prog 5 #[.int .u8 u, .slice a n0 c] w fun e w' => e = .returned (.bool true) ∧ Below w.heap.size w w' := by
  have HA := Lib.hid (fun W => awake13_any W)
  obtain ⟨rfl, hcap, hcm, _⟩ := h.shape
  unfold maxLen at hcm
  have HI := Lib.hid h
  clear h
  by_cases h80 : 80 < l.length
  · have h80i : (80 : Int) < (l.length : Int) := by omega
    go_enter Try.func5, Try.ntmps5
    go_wp2_with (go_at_call 6; refine (HA.out _).mono ?_; rintro e w1 ⟨rfl, b1⟩; refine Hid.out ?_)
    refine Lib.hid ?_
    have HB := Lib.hid b1
    clear b1
    go_wp2
    go_ret
    exact ⟨rfl, HB.out⟩
  have h80i : (l.length : Int) ≤ 80 := by omega
  obtain ⟨room, hroom⟩ : ∃ room : Nat, (room : Int) = u % 20 + 1 := ⟨(u % 20 + 1).toNat, Int.toNat_of_nonneg (by omega)⟩
  have hr1 : 1 ≤ room := by omega
  have hr2 : room ≤ 65536 := by omega
  have hrs : (room : Int) ≤ 20 := by omega
  have kr : Int.tmod u 20 = u % 20 := Int.tmod_eq_emod_of_nonneg hu0
  have k0 : IntKind.i64.wrap u = u := by simp [IntKind.wrap, IntKind.bits, IntKind.signed]; omega
  have k1 : IntKind.i64.wrap (u % 20 + 1) = (room : Int) := by rw [← hroom]; simp [IntKind.wrap, IntKind.bits, IntKind.signed]; omega
  have k2 : wrap64 (u % 20 + 1) = (room : Int) := by rw [← hroom]; unfold wrap64; omega
  have HNEW := Lib.hid (fun W => new13_yes room W hr1 hr2)
  clear hroom
  go_enter Try.func5, Try.ntmps5
  go_wp2_with (go_at_call 6; refine (HA.out _).mono ?_; rintro e w1 ⟨rfl, b1⟩; refine Hid.out ?_)
  refine Lib.hid ?_
  have HB1 := Lib.hid b1
  clear b1
  go_wp2_with (go_at_call 7; refine (HNEW.out _).mono ?_; rintro e w2 ⟨pt, g, wd, rfl, h1, h2, h3, h4⟩; refine Hid.out ?_)
  refine Lib.hid ?_
  have HZ0 := Lib.hid (show Z13 w pt g wd room [] w2 from ⟨h1, below_up HB1.out h4 HB1.out.size, Nat.le_trans HB1.out.size h2, Nat.le_trans HB1.out.size h3⟩)
  clear h1 h2 h3 h4 HNEW HB1 k0 k1 k2 kr
  go_wp2
  go_loopw [8] (fun i wr => ∃ (j : Nat) (L : List (Int × Int)), j ≤ l.length ∧ i = .int .i64 (j : Int) ∧ Hid (Z13 w pt g wd room L wr) ∧ Hid (Rng13 L)) (fun i _ => l.length - (intOf i).toNat)
  case atStart => exact ⟨0, [], Nat.zero_le _, rfl, HZ0, Lib.hid (fun _ h => by cases h)⟩
  case round =>
    clear HZ0
    obtain ⟨j, L, hj, rfl, HZ, HRG⟩ := hrel
    by_cases hlt : j < l.length
    · have hlti : (j : Int) < (l.length : Int) := by omega
      have h0k : ¬ (j : Int) < 0 := by omega
      obtain ⟨x, hx⟩ : ∃ x, l[j]? = some x := ⟨l[j], List.getElem?_eq_getElem hlt⟩
      obtain ⟨b, k, rfl, hbw, hr⟩ := s3_at HI.out j x hx
      have HR := Lib.hid hr
      have r0 := hr wr HZ.out.b
      have c0 : wr.cell? ⟨b, k + j * 3, none⟩ = some (.int .i64 x.k) := r0 0 _ rfl
      have c1 : wr.cell? ⟨b, k + j * 3 + 1, none⟩ = some (.int .i64 x.a) := r0 1 _ rfl
      clear hx hr r0
      by_cases hk : x.k = 1
      · have HD := Lib.hid (HZ.out.del x.a)
        have HRN := Lib.hid (HRG.out.del x.a)
        go_wp2_with (go_at_call 11; refine HD.out.mono ?_; rintro e w3 ⟨rfl, z3, _⟩; refine Hid.out ?_)
        refine Lib.hid ?_
        have HZ3 := Lib.hid z3
        clear z3 HD HZ c0 c1
        go_wp2
        go_roundw
        case rel => exact ⟨j + 1, _, hlt, by go_num, HZ3, HRN⟩
        case measure => simp [intOf]; omega
      · have HZD := Lib.hid (HZ.out.up (Below.refl _ _).drew)
        have HRN := Lib.hid (HRG.out.put room x.a x.v)
        have hhd : ∀ V, Below w.heap.size w V → Held3 b (k + j * 3) x.a x.v V := fun V hV => ⟨HR.out V hV 1 _ rfl, HR.out V hV 2 _ rfl⟩
        go_wp2
        refine wp_region_noPanic ?_
        refine wp_region_held_drew (S := Held3 b (k + j * 3) x.a x.v) (by kernel_rfl) (hhd _ HZD.out.b) (fun hHeld => ?_)
        generalize wr.drew = wd2 at *
        have HD := Lib.hid (HZD.out.put x.a x.v)
        refine held_take (v := ?v141) 0 rfl (by kernel_rfl) (by kernel_rfl) (by kernel_rfl) (fun _ _ _ h => h) (by rfl) ?y141 (by assumption) ?_
        case y141 => (intro w hSw; unfold Held3 at hSw; go_simp; (try with_reducible rfl); (try omega))
        simp only [List.setIfInBounds_toArray, List.set_cons_zero, List.set_cons_succ]
        refine held_take (v := ?v144) 1 rfl (by kernel_rfl) (by kernel_rfl) (by kernel_rfl) (fun _ _ _ h => h) (by rfl) ?y144 (by assumption) ?_
        case y144 => (intro w hSw; unfold Held3 at hSw; go_simp; (try with_reducible rfl); (try omega))
        simp only [List.setIfInBounds_toArray, List.set_cons_zero, List.set_cons_succ]
        refine held_take (v := ?v147) 2 rfl (by kernel_rfl) (by kernel_rfl) (by kernel_rfl) (fun _ _ _ h => h) (by rfl) ?y147 (by assumption) ?_
        case y147 => (intro w hSw; unfold Held3 at hSw; go_simp; (try with_reducible rfl); (try omega))
        simp only [List.setIfInBounds_toArray, List.set_cons_zero, List.set_cons_succ]
        refine held_take (v := ?v150) 3 rfl (by kernel_rfl) (by kernel_rfl) (by kernel_rfl) (fun _ _ _ h => h) (by rfl) ?y150 (by assumption) ?_
        case y150 => (intro w hSw; unfold Held3 at hSw; go_simp; (try with_reducible rfl); (try omega))
        simp only [List.setIfInBounds_toArray, List.set_cons_zero, List.set_cons_succ]
        refine held_take (v := ?v153) 4 rfl (by kernel_rfl) (by kernel_rfl) (by kernel_rfl) (fun _ _ _ h => h) (by rfl) ?y153 (by assumption) ?_
        case y153 => (intro w hSw; unfold Held3 at hSw; go_simp; (try with_reducible rfl); (try omega))
        simp only [List.setIfInBounds_toArray, List.set_cons_zero, List.set_cons_succ]
        refine held_take (v := ?v156) 5 rfl (by kernel_rfl) (by kernel_rfl) (by kernel_rfl) (fun _ _ _ h => h) (by rfl) ?y156 (by assumption) ?_
        case y156 => (intro w hSw; unfold Held3 at hSw; go_simp; (try with_reducible rfl); (try omega))
        simp only [List.setIfInBounds_toArray, List.set_cons_zero, List.set_cons_succ]
        refine held_take (v := ?v159) 6 rfl (by kernel_rfl) (by kernel_rfl) (by kernel_rfl) (fun _ _ _ h => h) (by rfl) ?y159 (by assumption) ?_
        case y159 => (intro w hSw; unfold Held3 at hSw; go_simp; (try with_reducible rfl); (try omega))
        simp only [List.setIfInBounds_toArray, List.set_cons_zero, List.set_cons_succ]
        refine held_take (v := ?v162) 7 rfl (by kernel_rfl) (by kernel_rfl) (by kernel_rfl) (fun _ _ _ h => h) (by rfl) ?y162 (by assumption) ?_
        case y162 => (intro w hSw; unfold Held3 at hSw; go_simp; (try with_reducible rfl); (try omega))
        simp only [List.setIfInBounds_toArray, List.set_cons_zero, List.set_cons_succ]
        refine held_take (v := ?v165) 8 rfl (by kernel_rfl) (by kernel_rfl) (by kernel_rfl) (fun _ _ _ h => h) (by rfl) ?y165 (by assumption) ?_
        case y165 => (intro w hSw; unfold Held3 at hSw; go_simp; (try with_reducible rfl); (try omega))
        simp only [List.setIfInBounds_toArray, List.set_cons_zero, List.set_cons_succ]
        refine held_take (v := ?v168) 9 rfl (by kernel_rfl) (by kernel_rfl) (by kernel_rfl) (fun _ _ _ h => h) (by rfl) ?y168 (by assumption) ?_
        case y168 => (intro w hSw; unfold Held3 at hSw; go_simp; (try with_reducible rfl); (try omega))
        simp only [List.setIfInBounds_toArray, List.set_cons_zero, List.set_cons_succ]
        refine held_take (v := ?v171) 10 rfl (by kernel_rfl) (by kernel_rfl) (by kernel_rfl) (fun _ _ _ h => h) (by rfl) ?y171 (by assumption) ?_
        case y171 => (intro w hSw; unfold Held3 at hSw; go_simp; (try with_reducible rfl); (try omega))
        simp only [List.setIfInBounds_toArray, List.set_cons_zero, List.set_cons_succ]
        refine held_one 11 rfl (by kernel_rfl) (by rfl) (fun K hK => ?_)
        go_simp
        refine HD.out.mono ?_
        rintro e w3 ⟨rfl, z3, _⟩
        refine hK.out _ _ (hhd _ z3.b) (fun _ => ?_)
        (try simp only [Act.put, List.setIfInBounds_toArray, List.set_cons_zero, List.set_cons_succ])
        clear hK K
        refine wpAnyH_done (by kernel_rfl) ?_ _
        refine NoPanic.normal ?_
        have HZ3 := Lib.hid z3
        clear z3 HD HZ HZD c0 c1 hhd hHeld
        go_wp2
        go_roundw
        case rel => exact ⟨j + 1, _, hlt, by go_num, HZ3, HRN⟩
        case measure => simp [intOf]; omega
    · have hlti : ¬ (j : Int) < (l.length : Int) := by omega
      have HAL := Lib.hid (tall_any wr HZ.out.t)
      go_wp2_with (go_at_call 16; refine HAL.out.mono ?_; rintro e w4 ⟨⟨v4, rfl, i4⟩, b4⟩; refine Hid.out ?_)
      refine Lib.hid ?_
      have HZ4 := Lib.hid (HZ.out.up b4)
      obtain ⟨sl4, hs4⟩ := HZ4.out.t
      have HSRT := Lib.hid hs4.s
      have hLr : L.length ≤ room := hs4.le
      have hLri : (L.length : Int) ≤ (room : Int) := by omega
      obtain ⟨_, av, cv, rfl, _, hcmv, hcv⟩ := i4
      have HCV := Lib.hid hcv
      unfold maxLen at hcmv
      clear HAL HZ b4 hs4 hcv
      go_wp2
      go_loopw [10] (fun i wq => ∃ (q : Nat), q ≤ L.length ∧ i = .int .i64 (q : Int) ∧ Hid (Z13 w pt g wd room L wq) ∧ Hid (Below w4.heap.size w4 wq)) (fun i _ => L.length - (intOf i).toNat)
      case atStart => exact ⟨0, Nat.zero_le _, rfl, HZ4, Lib.hid (Below.refl _ _)⟩
      case round =>
        clear HZ4
        obtain ⟨q, hq, rfl, HZQ, HBQ⟩ := hrel
        rename World => wq
        by_cases hqlt : q < L.length
        · have hqi : (q : Int) < (L.length : Int) := by omega
          have hq0 : ¬ (q : Int) < 0 := by omega
          obtain ⟨y, hy⟩ : ∃ y, L[q]? = some y := ⟨L[q], List.getElem?_eq_getElem hqlt⟩
          obtain ⟨bb, kk, rfl, hbb, hrr⟩ := HCV.out (by omega)
          have hro : ∀ V, Below w4.heap.size w4 V → ∀ (i : Nat) (z : Int × Int), L[i]? = some z → V.rangeAt bb (kk + i * 2) (iR z) := fun V hV i z hz m v hv =>
            (hV.cell (p := ⟨bb, kk + i * 2 + m, none⟩) hbb).trans (flat_range (iR_all L) hrr i z hz m v hv)
          have HRO := Lib.hid hro
          have e0 : wq.cell? ⟨bb, kk + q * 2, none⟩ = some (.int .i64 y.1) := hro _ HBQ.out q y hy 0 _ rfl
          have hgq : getQ y.1 L = (y.2, true) := by
            unfold getQ
            rw [if_pos (HRG.out y (List.mem_of_getElem? hy))]
            exact get13_of HSRT.out (List.mem_of_getElem? hy)
          have HGT := Lib.hid (tget_any y.1 wq HZQ.out.t)
          rw [hgq] at HGT
          have HY := Lib.hid hy
          clear hro hrr hgq hy
          go_wp2_with (go_at_call 13; refine HGT.out.mono ?_; rintro e w6 ⟨rfl, b6⟩; refine Hid.out ?_)
          refine Lib.hid ?_
          have HZ6 := Lib.hid ((HZQ.out.up b6).up (Below.refl _ _).drew)
          have hb6 := below_up HBQ.out b6 HBQ.out.size
          have HB6 := Lib.hid (below_up hb6 (Below.refl _ _).drew hb6.size)
          clear b6 hb6 HGT HZQ HBQ e0
          by_cases hqz : q = 0
          · have HQZ := Lib.hid hqz
            have hg0 : ¬ (q : Int) > 0 := by omega
            clear hqz
            go_wp2_with fail
            refine wp_region_noPanic ?_
            refine wp_region_held_drew (S := HeldO1 bb (kk + q * 2) y) (by kernel_rfl) ⟨HRO.out _ HB6.out q y HY.out 0 _ rfl, HRO.out _ HB6.out q y HY.out 1 _ rfl⟩ (fun hHeld => ?_)
            generalize w6.drew = w7 at *
            refine held_take (v := ?v240) 0 rfl (by kernel_rfl) (by kernel_rfl) (by kernel_rfl) (fun _ _ _ h => h) (by rfl) ?y240 (by assumption) ?_
            case y240 => (intro w hSw; unfold HeldO1 at hSw; go_simp; (try with_reducible rfl); (try omega))
            simp only [List.setIfInBounds_toArray, List.set_cons_zero, List.set_cons_succ]
            refine held_take (v := ?v243) 1 rfl (by kernel_rfl) (by kernel_rfl) (by kernel_rfl) (fun _ _ _ h => h) (by rfl) ?y243 (by assumption) ?_
            case y243 => (intro w hSw; unfold HeldO1 at hSw; go_simp; (try with_reducible rfl); (try omega))
            simp only [List.setIfInBounds_toArray, List.set_cons_zero, List.set_cons_succ]
            refine held_take (v := ?v246) 2 rfl (by kernel_rfl) (by kernel_rfl) (by kernel_rfl) (fun _ _ _ h => h) (by rfl) ?y246 (by assumption) ?_
            case y246 => (intro w hSw; unfold HeldO1 at hSw; go_simp; (try with_reducible rfl); (try omega))
            simp only [List.setIfInBounds_toArray, List.set_cons_zero, List.set_cons_succ]
            refine held_take (v := ?v249) 3 rfl (by kernel_rfl) (by kernel_rfl) (by kernel_rfl) (fun _ _ _ h => h) (by rfl) ?y249 (by assumption) ?_
            case y249 => (intro w hSw; unfold HeldO1 at hSw; go_simp; (try with_reducible rfl); (try omega))
            simp only [List.setIfInBounds_toArray, List.set_cons_zero, List.set_cons_succ]
            refine held_take (v := ?v252) 4 rfl (by kernel_rfl) (by kernel_rfl) (by kernel_rfl) (fun _ _ _ h => h) (by rfl) ?y252 (by assumption) ?_
            case y252 => (intro w hSw; unfold HeldO1 at hSw; go_simp; (try with_reducible rfl); (try omega))
            simp only [List.setIfInBounds_toArray, List.set_cons_zero, List.set_cons_succ]
            refine held_take (v := ?v255) 5 rfl (by kernel_rfl) (by kernel_rfl) (by kernel_rfl) (fun _ _ _ h => h) (by rfl) ?y255 (by assumption) ?_
            case y255 => (intro w hSw; unfold HeldO1 at hSw; go_simp; (try with_reducible rfl); (try omega))
            simp only [List.setIfInBounds_toArray, List.set_cons_zero, List.set_cons_succ]
            refine held_take (v := ?v258) 6 rfl (by kernel_rfl) (by kernel_rfl) (by kernel_rfl) (fun _ _ _ h => h) (by rfl) ?y258 (by assumption) ?_
            case y258 => (intro w hSw; unfold HeldO1 at hSw; go_simp; (try with_reducible rfl); (try omega))
            simp only [List.setIfInBounds_toArray, List.set_cons_zero, List.set_cons_succ]
            refine held_take (v := ?v261) 7 rfl (by kernel_rfl) (by kernel_rfl) (by kernel_rfl) (fun _ _ _ h => h) (by rfl) ?y261 (by assumption) ?_
            case y261 => (intro w hSw; unfold HeldO1 at hSw; go_simp; (try with_reducible rfl); (try omega))
            simp only [List.setIfInBounds_toArray, List.set_cons_zero, List.set_cons_succ]
            refine held_take (v := ?v264) 8 rfl (by kernel_rfl) (by kernel_rfl) (by kernel_rfl) (fun _ _ _ h => h) (by rfl) ?y264 (by assumption) ?_
            case y264 => (intro w hSw; unfold HeldO1 at hSw; go_simp; (try with_reducible rfl); (try omega))
            simp only [List.setIfInBounds_toArray, List.set_cons_zero, List.set_cons_succ]
            refine held_take (v := ?v267) 9 rfl (by kernel_rfl) (by kernel_rfl) (by kernel_rfl) (fun _ _ _ h => h) (by rfl) ?y267 (by assumption) ?_
            case y267 => (intro w hSw; unfold HeldO1 at hSw; go_simp; (try with_reducible rfl); (try omega))
            simp only [List.setIfInBounds_toArray, List.set_cons_zero, List.set_cons_succ]
            refine held_take (v := ?v270) 10 rfl (by kernel_rfl) (by kernel_rfl) (by kernel_rfl) (fun _ _ _ h => h) (by rfl) ?y270 (by assumption) ?_
            case y270 => (intro w hSw; unfold HeldO1 at hSw; go_simp; (try with_reducible rfl); (try omega))
            simp only [List.setIfInBounds_toArray, List.set_cons_zero, List.set_cons_succ]
            refine held_take (v := ?v273) 11 rfl (by kernel_rfl) (by kernel_rfl) (by kernel_rfl) (fun _ _ _ h => h) (by rfl) ?y273 (by assumption) ?_
            case y273 => (intro w hSw; unfold HeldO1 at hSw; go_simp; (try with_reducible rfl); (try omega))
            simp only [List.setIfInBounds_toArray, List.set_cons_zero, List.set_cons_succ]
            refine held_take (v := ?v276) 12 rfl (by kernel_rfl) (by kernel_rfl) (by kernel_rfl) (fun _ _ _ h => h) (by rfl) ?y276 (by assumption) ?_
            case y276 => (intro w hSw; unfold HeldO1 at hSw; go_simp; (try with_reducible rfl); (try omega))
            simp only [List.setIfInBounds_toArray, List.set_cons_zero, List.set_cons_succ]
            refine held_take (v := .bool false) 13 rfl (by kernel_rfl) (by kernel_rfl) (by kernel_rfl) (fun _ _ _ h => h) (by rfl) (fun W hSw => (by go_simp; omega)) (by assumption) ?_
            simp only [List.setIfInBounds_toArray, List.set_cons_zero, List.set_cons_succ]
            refine held_take (v := ?v281) 14 rfl (by kernel_rfl) (by kernel_rfl) (by kernel_rfl) (fun _ _ _ h => h) (by rfl) ?y281 (by assumption) ?_
            case y281 => (intro w hSw; unfold HeldO1 at hSw; go_simp; (try with_reducible rfl); (try omega))
            simp only [List.setIfInBounds_toArray, List.set_cons_zero, List.set_cons_succ]
            refine held_skip 15 rfl (by kernel_rfl) (by kernel_rfl) (by kernel_rfl) (fun _ _ _ h => h) (by rfl) (by assumption) ?_
            simp only [List.setIfInBounds_toArray, List.set_cons_zero, List.set_cons_succ]
            refine held_skip 16 rfl (by kernel_rfl) (by kernel_rfl) (by kernel_rfl) (fun _ _ _ h => h) (by rfl) (by assumption) ?_
            simp only [List.setIfInBounds_toArray, List.set_cons_zero, List.set_cons_succ]
            refine held_skip 17 rfl (by kernel_rfl) (by kernel_rfl) (by kernel_rfl) (fun _ _ _ h => h) (by rfl) (by assumption) ?_
            simp only [List.setIfInBounds_toArray, List.set_cons_zero, List.set_cons_succ]
            refine held_skip 18 rfl (by kernel_rfl) (by kernel_rfl) (by kernel_rfl) (fun _ _ _ h => h) (by rfl) (by assumption) ?_
            simp only [List.setIfInBounds_toArray, List.set_cons_zero, List.set_cons_succ]
            refine held_skip 19 rfl (by kernel_rfl) (by kernel_rfl) (by kernel_rfl) (fun _ _ _ h => h) (by rfl) (by assumption) ?_
            simp only [List.setIfInBounds_toArray, List.set_cons_zero, List.set_cons_succ]
            refine held_skip 20 rfl (by kernel_rfl) (by kernel_rfl) (by kernel_rfl) (fun _ _ _ h => h) (by rfl) (by assumption) ?_
            simp only [List.setIfInBounds_toArray, List.set_cons_zero, List.set_cons_succ]
            refine held_skip 21 rfl (by kernel_rfl) (by kernel_rfl) (by kernel_rfl) (fun _ _ _ h => h) (by rfl) (by assumption) ?_
            simp only [List.setIfInBounds_toArray, List.set_cons_zero, List.set_cons_succ]
            refine held_skip 22 rfl (by kernel_rfl) (by kernel_rfl) (by kernel_rfl) (fun _ _ _ h => h) (by rfl) (by assumption) ?_
            simp only [List.setIfInBounds_toArray, List.set_cons_zero, List.set_cons_succ]
            refine held_skip 23 rfl (by kernel_rfl) (by kernel_rfl) (by kernel_rfl) (fun _ _ _ h => h) (by rfl) (by assumption) ?_
            simp only [List.setIfInBounds_toArray, List.set_cons_zero, List.set_cons_succ]
            refine held_skip 24 rfl (by kernel_rfl) (by kernel_rfl) (by kernel_rfl) (fun _ _ _ h => h) (by rfl) (by assumption) ?_
            simp only [List.setIfInBounds_toArray, List.set_cons_zero, List.set_cons_succ]
            refine held_skip 25 rfl (by kernel_rfl) (by kernel_rfl) (by kernel_rfl) (fun _ _ _ h => h) (by rfl) (by assumption) ?_
            simp only [List.setIfInBounds_toArray, List.set_cons_zero, List.set_cons_succ]
            refine held_skip 26 rfl (by kernel_rfl) (by kernel_rfl) (by kernel_rfl) (fun _ _ _ h => h) (by rfl) (by assumption) ?_
            simp only [List.setIfInBounds_toArray, List.set_cons_zero, List.set_cons_succ]
            refine held_take (v := ?v308) 27 rfl (by kernel_rfl) (by kernel_rfl) (by kernel_rfl) (fun _ _ _ h => h) (by rfl) ?y308 (by assumption) ?_
            case y308 => (intro w hSw; unfold HeldO1 at hSw; go_simp; (try with_reducible rfl); (try omega))
            simp only [List.setIfInBounds_toArray, List.set_cons_zero, List.set_cons_succ]
            refine held_take (v := ?v311) 28 rfl (by kernel_rfl) (by kernel_rfl) (by kernel_rfl) (fun _ _ _ h => h) (by rfl) ?y311 (by assumption) ?_
            case y311 => (intro w hSw; unfold HeldO1 at hSw; go_simp; (try with_reducible rfl); (try omega))
            simp only [List.setIfInBounds_toArray, List.set_cons_zero, List.set_cons_succ]
            refine wpAnyH_done (by kernel_rfl) ?_ _
            refine NoPanic.normal ?_
            go_wp2
            go_roundw
            case rel => exact ⟨q + 1, hqlt, by go_num, HZ6, HB6⟩
            case measure => simp [intOf]; omega
          · obtain ⟨p, hp⟩ : ∃ p, q = p + 1 := ⟨q - 1, by omega⟩
            obtain ⟨z, hz⟩ : ∃ z, L[p]? = some z := ⟨L[p], List.getElem?_eq_getElem (by omega)⟩
            have hlt9 : z.1 < y.1 := by
              have h1 := List.pairwise_iff_getElem.1 HSRT.out p q (by omega) hqlt (by omega)
              rw [(List.getElem?_eq_some_iff.1 hz).2, (List.getElem?_eq_some_iff.1 HY.out).2] at h1
              exact h1
            have hge9 : ¬ z.1 ≥ y.1 := by omega
            have hg0 : (q : Int) > 0 := by omega
            have kq : IntKind.i64.wrap ((q : Int) - 1) = (p : Int) := by simp [IntKind.wrap, IntKind.bits, IntKind.signed]; omega
            have hp0 : ¬ (p : Int) < 0 := by omega
            have hpl : (p : Int) < (L.length : Int) := by omega
            have hQ2 : kk + q * 2 = kk + p * 2 + 2 := by omega
            have hel : HeldO2 bb (kk + p * 2) y z w6.drew := ⟨by rw [← hQ2]; exact HRO.out _ HB6.out q y HY.out 0 _ rfl, by rw [← hQ2]; exact HRO.out _ HB6.out q y HY.out 1 _ rfl, HRO.out _ HB6.out p z hz 0 _ rfl⟩
            have HP := Lib.hid hp
            have HQ2 := Lib.hid hQ2
            clear hqz hp hz hlt9 hQ2
            go_wp2_with fail
            refine wp_region_noPanic ?_
            refine wp_region_held_drew (S := HeldO2 bb (kk + p * 2) y z) (by kernel_rfl) hel (fun hHeld => ?_)
            generalize w6.drew = w7 at *
            refine held_take (v := ?v340) 0 rfl (by kernel_rfl) (by kernel_rfl) (by kernel_rfl) (fun _ _ _ h => h) (by rfl) ?y340 (by assumption) ?_
            case y340 => (intro w hSw; unfold HeldO2 at hSw; go_simp; (try with_reducible rfl); (try omega))
            simp only [List.setIfInBounds_toArray, List.set_cons_zero, List.set_cons_succ]
            refine held_take (v := ?v343) 1 rfl (by kernel_rfl) (by kernel_rfl) (by kernel_rfl) (fun _ _ _ h => h) (by rfl) ?y343 (by assumption) ?_
            case y343 => (intro w hSw; unfold HeldO2 at hSw; go_simp; (try with_reducible rfl); (try omega))
            simp only [List.setIfInBounds_toArray, List.set_cons_zero, List.set_cons_succ]
            refine held_take (v := ?v346) 2 rfl (by kernel_rfl) (by kernel_rfl) (by kernel_rfl) (fun _ _ _ h => h) (by rfl) ?y346 (by assumption) ?_
            case y346 => (intro w hSw; unfold HeldO2 at hSw; go_simp; (try with_reducible rfl); (try omega))
            simp only [List.setIfInBounds_toArray, List.set_cons_zero, List.set_cons_succ]
            refine held_take (v := ?v349) 3 rfl (by kernel_rfl) (by kernel_rfl) (by kernel_rfl) (fun _ _ _ h => h) (by rfl) ?y349 (by assumption) ?_
            case y349 => (intro w hSw; unfold HeldO2 at hSw; go_simp; (try with_reducible rfl); (try omega))
            simp only [List.setIfInBounds_toArray, List.set_cons_zero, List.set_cons_succ]
            refine held_take (v := ?v352) 4 rfl (by kernel_rfl) (by kernel_rfl) (by kernel_rfl) (fun _ _ _ h => h) (by rfl) ?y352 (by assumption) ?_
            case y352 => (intro w hSw; unfold HeldO2 at hSw; go_simp; (try with_reducible rfl); (try omega))
            simp only [List.setIfInBounds_toArray, List.set_cons_zero, List.set_cons_succ]
            refine held_take (v := ?v355) 5 rfl (by kernel_rfl) (by kernel_rfl) (by kernel_rfl) (fun _ _ _ h => h) (by rfl) ?y355 (by assumption) ?_
            case y355 => (intro w hSw; unfold HeldO2 at hSw; go_simp; (try with_reducible rfl); (try omega))
            simp only [List.setIfInBounds_toArray, List.set_cons_zero, List.set_cons_succ]
            refine held_take (v := .pointer (some ⟨bb, kk + p * 2 + 2, none⟩)) 6 rfl (by kernel_rfl) (by kernel_rfl) (by kernel_rfl) (fun _ _ _ h => h) (by rfl) (fun W hSw => (by rw [← HQ2.out]; go_simp; done)) (by assumption) ?_
            simp only [List.setIfInBounds_toArray, List.set_cons_zero, List.set_cons_succ]
            refine held_take (v := ?v360) 7 rfl (by kernel_rfl) (by kernel_rfl) (by kernel_rfl) (fun _ _ _ h => h) (by rfl) ?y360 (by assumption) ?_
            case y360 => (intro w hSw; unfold HeldO2 at hSw; go_simp; (try with_reducible rfl); (try omega))
            simp only [List.setIfInBounds_toArray, List.set_cons_zero, List.set_cons_succ]
            refine held_take (v := ?v363) 8 rfl (by kernel_rfl) (by kernel_rfl) (by kernel_rfl) (fun _ _ _ h => h) (by rfl) ?y363 (by assumption) ?_
            case y363 => (intro w hSw; unfold HeldO2 at hSw; go_simp; (try with_reducible rfl); (try omega))
            simp only [List.setIfInBounds_toArray, List.set_cons_zero, List.set_cons_succ]
            refine held_take (v := ?v366) 9 rfl (by kernel_rfl) (by kernel_rfl) (by kernel_rfl) (fun _ _ _ h => h) (by rfl) ?y366 (by assumption) ?_
            case y366 => (intro w hSw; unfold HeldO2 at hSw; go_simp; (try with_reducible rfl); (try omega))
            simp only [List.setIfInBounds_toArray, List.set_cons_zero, List.set_cons_succ]
            refine held_take (v := ?v369) 10 rfl (by kernel_rfl) (by kernel_rfl) (by kernel_rfl) (fun _ _ _ h => h) (by rfl) ?y369 (by assumption) ?_
            case y369 => (intro w hSw; unfold HeldO2 at hSw; go_simp; (try with_reducible rfl); (try omega))
            simp only [List.setIfInBounds_toArray, List.set_cons_zero, List.set_cons_succ]
            refine held_take (v := ?v372) 11 rfl (by kernel_rfl) (by kernel_rfl) (by kernel_rfl) (fun _ _ _ h => h) (by rfl) ?y372 (by assumption) ?_
            case y372 => (intro w hSw; unfold HeldO2 at hSw; go_simp; (try with_reducible rfl); (try omega))
            simp only [List.setIfInBounds_toArray, List.set_cons_zero, List.set_cons_succ]
            refine held_take (v := ?v375) 12 rfl (by kernel_rfl) (by kernel_rfl) (by kernel_rfl) (fun _ _ _ h => h) (by rfl) ?y375 (by assumption) ?_
            case y375 => (intro w hSw; unfold HeldO2 at hSw; go_simp; (try with_reducible rfl); (try omega))
            simp only [List.setIfInBounds_toArray, List.set_cons_zero, List.set_cons_succ]
            refine held_take (v := .bool true) 13 rfl (by kernel_rfl) (by kernel_rfl) (by kernel_rfl) (fun _ _ _ h => h) (by rfl) (fun W hSw => (by go_simp; omega)) (by assumption) ?_
            simp only [List.setIfInBounds_toArray, List.set_cons_zero, List.set_cons_succ]
            refine held_take (v := ?v380) 14 rfl (by kernel_rfl) (by kernel_rfl) (by kernel_rfl) (fun _ _ _ h => h) (by rfl) ?y380 (by assumption) ?_
            case y380 => (intro w hSw; unfold HeldO2 at hSw; go_simp; (try with_reducible rfl); (try omega))
            simp only [List.setIfInBounds_toArray, List.set_cons_zero, List.set_cons_succ]
            refine held_take (v := ?v383) 15 rfl (by kernel_rfl) (by kernel_rfl) (by kernel_rfl) (fun _ _ _ h => h) (by rfl) ?y383 (by assumption) ?_
            case y383 => (intro w hSw; unfold HeldO2 at hSw; go_simp; (try with_reducible rfl); (try omega))
            simp only [List.setIfInBounds_toArray, List.set_cons_zero, List.set_cons_succ]
            refine held_take (v := ?v386) 16 rfl (by kernel_rfl) (by kernel_rfl) (by kernel_rfl) (fun _ _ _ h => h) (by rfl) ?y386 (by assumption) ?_
            case y386 => (intro w hSw; unfold HeldO2 at hSw; go_simp; (try with_reducible rfl); (try omega))
            simp only [List.setIfInBounds_toArray, List.set_cons_zero, List.set_cons_succ]
            refine held_take (v := .int .i64 (p : Int)) 17 rfl (by kernel_rfl) (by kernel_rfl) (by kernel_rfl) (fun _ _ _ h => h) (by rfl) (fun W hSw => (by go_simp; done)) (by assumption) ?_
            simp only [List.setIfInBounds_toArray, List.set_cons_zero, List.set_cons_succ]
            refine held_take (v := ?v391) 18 rfl (by kernel_rfl) (by kernel_rfl) (by kernel_rfl) (fun _ _ _ h => h) (by rfl) ?y391 (by assumption) ?_
            case y391 => (intro w hSw; unfold HeldO2 at hSw; go_simp; (try with_reducible rfl); (try omega))
            simp only [List.setIfInBounds_toArray, List.set_cons_zero, List.set_cons_succ]
            refine held_take (v := ?v394) 19 rfl (by kernel_rfl) (by kernel_rfl) (by kernel_rfl) (fun _ _ _ h => h) (by rfl) ?y394 (by assumption) ?_
            case y394 => (intro w hSw; unfold HeldO2 at hSw; go_simp; (try with_reducible rfl); (try omega))
            simp only [List.setIfInBounds_toArray, List.set_cons_zero, List.set_cons_succ]
            refine held_take (v := ?v397) 20 rfl (by kernel_rfl) (by kernel_rfl) (by kernel_rfl) (fun _ _ _ h => h) (by rfl) ?y397 (by assumption) ?_
            case y397 => (intro w hSw; unfold HeldO2 at hSw; go_simp; (try with_reducible rfl); (try omega))
            simp only [List.setIfInBounds_toArray, List.set_cons_zero, List.set_cons_succ]
            refine held_take (v := ?v400) 21 rfl (by kernel_rfl) (by kernel_rfl) (by kernel_rfl) (fun _ _ _ h => h) (by rfl) ?y400 (by assumption) ?_
            case y400 => (intro w hSw; unfold HeldO2 at hSw; go_simp; (try with_reducible rfl); (try omega))
            simp only [List.setIfInBounds_toArray, List.set_cons_zero, List.set_cons_succ]
            refine held_take (v := ?v403) 22 rfl (by kernel_rfl) (by kernel_rfl) (by kernel_rfl) (fun _ _ _ h => h) (by rfl) ?y403 (by assumption) ?_
            case y403 => (intro w hSw; unfold HeldO2 at hSw; go_simp; (try with_reducible rfl); (try omega))
            simp only [List.setIfInBounds_toArray, List.set_cons_zero, List.set_cons_succ]
            refine held_take (v := .pointer (some ⟨bb, kk + p * 2 + 2, none⟩)) 23 rfl (by kernel_rfl) (by kernel_rfl) (by kernel_rfl) (fun _ _ _ h => h) (by rfl) (fun W hSw => (by rw [← HQ2.out]; go_simp; done)) (by assumption) ?_
            simp only [List.setIfInBounds_toArray, List.set_cons_zero, List.set_cons_succ]
            refine held_take (v := ?v408) 24 rfl (by kernel_rfl) (by kernel_rfl) (by kernel_rfl) (fun _ _ _ h => h) (by rfl) ?y408 (by assumption) ?_
            case y408 => (intro w hSw; unfold HeldO2 at hSw; go_simp; (try with_reducible rfl); (try omega))
            simp only [List.setIfInBounds_toArray, List.set_cons_zero, List.set_cons_succ]
            refine held_take (v := ?v411) 25 rfl (by kernel_rfl) (by kernel_rfl) (by kernel_rfl) (fun _ _ _ h => h) (by rfl) ?y411 (by assumption) ?_
            case y411 => (intro w hSw; unfold HeldO2 at hSw; go_simp; (try with_reducible rfl); (try omega))
            simp only [List.setIfInBounds_toArray, List.set_cons_zero, List.set_cons_succ]
            refine held_take (v := .bool false) 26 rfl (by kernel_rfl) (by kernel_rfl) (by kernel_rfl) (fun _ _ _ h => h) (by rfl) (fun W hSw => (by go_simp; done)) (by assumption) ?_
            simp only [List.setIfInBounds_toArray, List.set_cons_zero, List.set_cons_succ]
            refine held_take (v := ?v416) 27 rfl (by kernel_rfl) (by kernel_rfl) (by kernel_rfl) (fun _ _ _ h => h) (by rfl) ?y416 (by assumption) ?_
            case y416 => (intro w hSw; unfold HeldO2 at hSw; go_simp; (try with_reducible rfl); (try omega))
            simp only [List.setIfInBounds_toArray, List.set_cons_zero, List.set_cons_succ]
            refine held_take (v := ?v419) 28 rfl (by kernel_rfl) (by kernel_rfl) (by kernel_rfl) (fun _ _ _ h => h) (by rfl) ?y419 (by assumption) ?_
            case y419 => (intro w hSw; unfold HeldO2 at hSw; go_simp; (try with_reducible rfl); (try omega))
            simp only [List.setIfInBounds_toArray, List.set_cons_zero, List.set_cons_succ]
            refine wpAnyH_done (by kernel_rfl) ?_ _
            refine NoPanic.normal ?_
            go_wp2
            go_roundw
            case rel => exact ⟨q + 1, hqlt, by go_num, HZ6, HB6⟩
            case measure => simp [intOf]; omega
        · have hqi : ¬ (q : Int) < (L.length : Int) := by omega
          have HQE := Lib.hid (show q = L.length by omega)
          have HLN := Lib.hid HZQ.out.len
          have hlb : decide ((L.length : Int) ≤ (room : Int)) = true := decide_eq_true hLri
          go_wp2_with (go_at_call 15; refine HLN.out.mono ?_; rintro e w8 ⟨rfl, rfl⟩)
          go_ret
          exact ⟨rfl, HZQ.out.b⟩
end Go.Proofs.Ytoliijajhikhgaa

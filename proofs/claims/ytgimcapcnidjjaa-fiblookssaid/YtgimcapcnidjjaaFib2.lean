/- A table of both kinds (package fib): New; its rows gathered and kept: All, Uses. -/
import Derived.Test.YtgimcapcnidjjaaFib1
namespace Go.Proofs.Ytgimcapcnidjjaa
open Go Go.RowKit

set_option maxRecDepth 100000 in
set_option maxHeartbeats 4000000 in
theorem fnew_none (room : Int) (w : World) (h : room < 1 ∨ 65536 < room) : Calls Try.prog 7 #[.int .i64 room] w fun e w' => e = .returned (.pointer none) ∧ w' = w := by
  by_cases h1 : room < 1
  · clear h
    go_enter Try.func7, Try.ntmps7
    go_wp2
    go_ret
    exact ⟨rfl, rfl⟩
  · have h2 : 65536 < room := by omega
    have h3 : 1 ≤ room := by omega
    clear h h1
    go_enter Try.func7, Try.ntmps7
    go_wp2
    go_ret
    exact ⟨rfl, rfl⟩
set_option maxRecDepth 100000 in
set_option maxHeartbeats 4000000 in
theorem fnew (room : Int) (w : World) (h1 : 1 ≤ room) (h2 : room ≤ 65536) : Calls Try.prog 7 #[.int .i64 room] w fun e w' => ∃ g X, e = .returned (.pointer (some ⟨g, 0, none⟩)) ∧ FibQ w' X (.pointer (some ⟨g, 0, none⟩)) true room (fun _ => []) 1 ∧ Below w.heap.size w w' ∧ (∀ k, X k → w.heap.size ≤ k) := by
  have H4 := Lib.hid (fun W => newZ false room W h1 h2)
  have H6 := Lib.hid (fun W => newZ true room W h1 h2)
  have H0 : Hid (0 ≤ room) := Lib.hid (by omega)
  go_enter Try.func7, Try.ntmps7
  go_wp2_with (go_at_call 29; refine (H4.out _).mono ?_; rintro e w1 ⟨g4, X4, rfl, t4, b4, x4⟩; refine Hid.out ?_)
  refine Lib.hid ?_
  have T4 := Lib.hid t4
  have B4 := Lib.hid b4
  have Y4 := Lib.hid x4
  clear t4 b4 x4 H4
  go_wp2_with (go_at_call 29; refine (H6.out _).mono ?_; rintro e w2 ⟨g6, X6, rfl, t6, b6, x6⟩; refine Hid.out ?_)
  refine Lib.hid ?_
  have T6 := Lib.hid t6
  have B6 := Lib.hid b6
  have Y6 := Lib.hid x6
  clear t6 b6 x6 H6
  go_wp2
  go_ret
  have hb : Below w2.heap.size w2 (w2.alloc (.cells #[.pointer (some ⟨g4, 0, none⟩), .pointer (some ⟨g6, 0, none⟩)] 70)) := (Below.refl _ _).alloc (Nat.le_refl _) _
  have hB2 := below_up B4.out B6.out B4.out.size
  have s2 := hB2.size
  have l4 := T4.out.blocks
  have l6 := T6.out.blocks
  have s1 := B6.out.size
  have s0 := B4.out.size
  refine ⟨w2.heap.size, fun k => k = w2.heap.size ∨ X4 k ∨ X6 k, rfl, ⟨fun s => if s then some ⟨g6, 0, none⟩ else some ⟨g4, 0, none⟩, fun s => if s then X6 else X4, .inl ⟨_, rfl, ?_⟩, fun s => ?_, fun k s hk => ?_, fun g e => ?_, fun s k hk => ?_, fun k hk => ?_⟩, below_up hB2 hb s2, fun k hk => ?_⟩
  · exact Bx.new w2 70 [.pointer (some ⟨g4, 0, none⟩), .pointer (some ⟨g6, 0, none⟩)]
  · cases s with
    | false => exact .inl ⟨rfl, g4, rfl, (T4.out.up B6.out).up hb, by simpa using H0.out⟩
    | true => exact .inl ⟨rfl, g6, rfl, T6.out.up hb, by simpa using H0.out⟩
  · cases s with
    | false => intro h; have := Y6.out k h; have := l4 k hk; omega
    | true => intro h; have := Y6.out k hk; have := l4 k h; omega
  · cases e
    refine ⟨.inl rfl, fun s => ?_⟩
    cases s with
    | false => intro h; have := l4 _ h; omega
    | true => intro h; have := l6 _ h; omega
  · cases s with
    | false => exact .inr (.inl hk)
    | true => exact .inr (.inr hk)
  · rw [World.size_alloc]
    rcases hk with rfl | h | h
    · omega
    · have := l4 k h; omega
    · have := l6 k h; omega
  · rcases hk with rfl | h | h
    · omega
    · exact Y4.out k h
    · have := Y6.out k h; omega
/-! Rows, gathered. -/
def uptoL (L : Bool → List (Pfx × Int)) (k : Nat) : List (Pfx × Int) := if k = 0 then [] else if k = 1 then L false else kindL L
theorem itF_ones (L : List (Pfx × Int)) : ∀ y ∈ L, ∀ u ∈ itF y, u.oneCell' = true := fun y _ => it_one y.1 y.2
theorem own_grown {w W W' : World} {v : Value} {e : TypeId} {c n : Nat} {xs : List Value} (hb : Below w.heap.size w W) (ho : W.ownsRow w.heap.size e c v n xs) (hg : W.grownBy W' v.ownBlock) : Below w.heap.size w W' := hb.grown hg hb.size (fun k e => owned_low ho k e)
set_option maxRecDepth 100000 in
set_option maxHeartbeats 4000000 in
theorem gather_any (w : World) {Y : Bool → Nat → Prop} {pp : Bool → Option Addr} {is room} {six : Bool → Bool} {L : Bool → List (Pfx × Int)} {N : Nat} (h : ∀ s, TabQ w (Y s) (.pointer (pp s)) is (six s) room (L s) N) (hN : N ≤ 400000) (hl : ∀ s, (L s).length ≤ 400000) :
    Calls Try.prog 42 #[.agg #[.pointer (pp false), .pointer (pp true)], .func (.func 44) #[] #[]] w fun e w' => ∃ v, e = .returned v ∧ w'.ownsRow w.heap.size 44 19 v (kindL L).length ((kindL L).flatMap itF) ∧ Below w.heap.size w w' := by
  have HALL := Lib.hid (fun s W (hW : Below w.heap.size w W) => allQ ((h s).up hW) (by omega))
  have HL4 := Lib.hid (hl false)
  have HL6 := Lib.hid (hl true)
  have hb : Below w.heap.size w (w.alloc (.cells #[.pointer (pp false), .pointer (pp true)] 68)) := (Below.refl _ _).alloc (Nat.le_refl _) _
  have R0 := Lib.hid (rangeAll (Bx.new w 68 [.pointer (pp false), .pointer (pp true)]))
  have HB := Lib.hid hb
  obtain ⟨ti, hti, htz, hts, htb⟩ := info_parts it_infoF
  clear h hl hb
  generalize hp4 : pp false = p4 at *
  generalize hp6 : pp true = p6 at *
  go_enter Try.func42, Try.ntmps42
  go_wp2_with (refine wpList_load_any rfl 68 (.tmp 2) rfl w.heap.size 0 [.pointer p4, .pointer p6] _ rfl R0.out Try.underlying68 rfl tabs_info ?_)
  go_loopw [5, 7, 9] (fun kv _ iv wr => ∃ k : Nat, k ≤ 2 ∧ iv = .int .i64 (k : Int) ∧ wr.ownsRow w.heap.size 44 19 kv (uptoL L k).length ((uptoL L k).flatMap itF) ∧ Below w.heap.size w wr) (fun _ _ iv _ => 2 - (intOf iv).toNat)
  case atStart => exact ⟨0, by omega, rfl, World.ownsRow_nil _ _ _ _, HB.out⟩
  case round =>
    obtain ⟨k, hk, rfl, hown, hbw⟩ := hrel
    clear R0 HB
    have HOWN := Lib.hid hown
    have HBW := Lib.hid hbw
    clear hown hbw
    rcases (show k = 0 ∨ k = 1 ∨ k = 2 by omega) with rfl | rfl | rfl
    · have HA := Lib.hid (HALL.out false _ HBW.out)
      rw [hp4] at HA
      have hws := HBW.out.size
      have hlk : (uptoL L 0).length ≤ 400000 := by have := HL4.out; simp [uptoL]
      have HLK := Lib.hid hlk
      clear hlk
      go_wp2_with (first
        | (refine plV rfl (.pointer p4) (exec_indexT (.tmp 8) _ rfl p4 p6 false rfl rfl) ?_)
        | (go_at_call 44; refine HA.out.mono ?_; rintro e w3 ⟨va, vc, rfl, l3, b3⟩; refine Hid.out ?_))
      refine Lib.hid ?_
      have B3 := Lib.hid (below_up HBW.out b3 hws)
      have HO3 := Lib.hid (own_below HOWN.out b3)
      have HL3 := Lib.hid l3
      have hs3 := B3.out.size
      clear l3 b3 HA HOWN HBW hws
      go_wp2_with (at_builtin; refine append_flat rfl (.tmp 12) (.tmp 15) 56 rfl w.heap.size 44 ti (itV ⟨false, List.replicate 16 0, 0⟩ 0) 40 Try.underlying56 hti htz hts htb rfl (by decide) (by decide) _ _ _ rfl HO3.out va _ vc (L false) rfl HL3.out (itF_ones _) (by have := HLK.out; have := HL4.out; omega) hs3 ?_; intro v4 w4 hown hgr; refine Hid.out ?_)
      refine Lib.hid ?_
      have HB4 := Lib.hid (own_grown B3.out HO3.out hgr)
      have HO4 : Hid (w4.ownsRow w.heap.size 44 19 v4 (uptoL L 1).length ((uptoL L 1).flatMap itF)) := Lib.hid (by
        have e : uptoL L 1 = uptoL L 0 ++ L false := by simp [uptoL]
        rw [e, List.length_append, List.flatMap_append]
        exact hown)
      clear hown hgr
      go_wp2
      go_roundw
      case rel => exact ⟨1, by omega, rfl, HO4.out, HB4.out⟩
      case measure => simp [intOf]
    · have HA := Lib.hid (HALL.out true _ HBW.out)
      rw [hp6] at HA
      have hws := HBW.out.size
      have hlk : (uptoL L 1).length ≤ 400000 := by have := HL4.out; simp [uptoL]; omega
      have HLK := Lib.hid hlk
      clear hlk
      go_wp2_with (first
        | (refine plV rfl (.pointer p6) (exec_indexT (.tmp 8) _ rfl p4 p6 true rfl rfl) ?_)
        | (go_at_call 44; refine HA.out.mono ?_; rintro e w3 ⟨va, vc, rfl, l3, b3⟩; refine Hid.out ?_))
      refine Lib.hid ?_
      have B3 := Lib.hid (below_up HBW.out b3 hws)
      have HO3 := Lib.hid (own_below HOWN.out b3)
      have HL3 := Lib.hid l3
      have hs3 := B3.out.size
      clear l3 b3 HA HOWN HBW hws
      go_wp2_with (at_builtin; refine append_flat rfl (.tmp 12) (.tmp 15) 56 rfl w.heap.size 44 ti (itV ⟨false, List.replicate 16 0, 0⟩ 0) 40 Try.underlying56 hti htz hts htb rfl (by decide) (by decide) _ _ _ rfl HO3.out va _ vc (L true) rfl HL3.out (itF_ones _) (by have := HLK.out; have := HL6.out; omega) hs3 ?_; intro v4 w4 hown hgr; refine Hid.out ?_)
      refine Lib.hid ?_
      have HB4 := Lib.hid (own_grown B3.out HO3.out hgr)
      have HO4 : Hid (w4.ownsRow w.heap.size 44 19 v4 (uptoL L 2).length ((uptoL L 2).flatMap itF)) := Lib.hid (by
        have e : uptoL L 2 = uptoL L 1 ++ L true := by simp [uptoL, kindL]
        rw [e, List.length_append, List.flatMap_append]
        exact hown)
      clear hown hgr
      go_wp2
      go_roundw
      case rel => exact ⟨2, by omega, rfl, HO4.out, HB4.out⟩
      case measure => simp [intOf]
    · go_wp2
      go_ret
      exact ⟨_, rfl, HOWN.out, HBW.out⟩
theorem take_filter {f : Pfx × Int → Bool} {L : List (Pfx × Int)} {j : Nat} {x : Pfx × Int} (h : L[j]? = some x) : (L.take (j + 1)).filter f = (L.take j).filter f ++ (if f x then [x] else []) := by
  rw [take_snoc h, List.filter_append]
  congr 1
  cases hf : f x <;> simp [hf]
set_option maxRecDepth 100000 in
set_option maxHeartbeats 4000000 in
theorem keepU (f : Pfx × Int → Bool) (L : List (Pfx × Int)) (va : Option Addr) (cap B : Nat) (w : World) (hC : IsC itF 19 w (.slice va L.length cap) L) (hl : L.length ≤ 900000)
    (hcl : ∀ x ∈ L, ∀ W, Below w.heap.size w W → Calls Try.prog 41 #[itV x.1 x.2, .pointer (some ⟨B, 0, none⟩)] W fun e W' => e = .returned (.bool (f x)) ∧ Below W.heap.size W W') :
    Calls Try.prog 40 #[.slice va L.length cap, .func (.func 41) #[] #[.pointer (some ⟨B, 0, none⟩)]] w fun e w' => ∃ v, e = .returned v ∧ w'.ownsRow w.heap.size 44 19 v (L.filter f).length ((L.filter f).flatMap itF) ∧ Below w.heap.size w w' := by
  have HC := Lib.hid hC
  have HCL := Lib.hid hcl
  obtain ⟨_, hcap, hcm, _⟩ := hC.shape
  unfold maxLen at hcm
  obtain ⟨ti, hti, htz, hts, htb⟩ := info_parts it_infoF
  clear hC hcl
  go_enter Try.func40, Try.ntmps40
  go_wp2
  go_loopw [5, 7, 10] (fun kv _ iv wr => ∃ j : Nat, j ≤ L.length ∧ iv = .int .i64 (j : Int) ∧ wr.ownsRow w.heap.size 44 19 kv ((L.take j).filter f).length (((L.take j).filter f).flatMap itF) ∧ Below w.heap.size w wr) (fun _ _ iv _ => L.length - (intOf iv).toNat)
  case atStart => exact ⟨0, by omega, rfl, World.ownsRow_nil _ _ _ _, Below.refl _ _⟩
  case round =>
    obtain ⟨j, hj, rfl, hown, hbw⟩ := hrel
    by_cases hje : j = L.length
    · subst hje
      rw [List.take_length] at hown
      have HOWN := Lib.hid hown
      have HBW := Lib.hid hbw
      clear hown hbw
      go_wp2
      go_ret
      exact ⟨_, rfl, HOWN.out, HBW.out⟩
    · have hlt : j < L.length := by omega
      obtain ⟨x, hx⟩ : ∃ x, L[j]? = some x := ⟨_, List.getElem?_eq_getElem hlt⟩
      have hx16 := itF_addr (HC.out.1 x (List.mem_of_getElem? hx))
      obtain ⟨b, k, rfl, hbl, hr⟩ := isC_at (HC.out.below hbw) j x hx
      have hjj : (j : Int) < (L.length : Int) := by omega
      have HR := Lib.hid hr
      have HX16 := Lib.hid hx16
      have hbb : Below wr.heap.size wr (wr.alloc (.cells (itR x.1 x.2).toArray 44)) := (Below.refl _ _).alloc (Nat.le_refl _) _
      have hB1 := below_up hbw hbb hbw.size
      have HC1 := Lib.hid (HCL.out x (List.mem_of_getElem? hx) _ hB1)
      have HB1 := Lib.hid hB1
      have HO1 := Lib.hid (own_below hown hbb)
      have HBX := Lib.hid (Bx.new wr 44 (itR x.1 x.2))
      have HTF := Lib.hid (take_filter (f := f) hx)
      have hlen : ((L.take j).filter f).length ≤ j := Nat.le_trans (List.length_filter_le _ _) (by rw [List.length_take]; omega)
      have HLEN := Lib.hid hlen
      clear hr hx16 hbb hB1 hown hbw hx hlen
      go_wp2_with (first
        | (refine plV rfl (itV x.1 x.2) (exec_load_any _ (.tmp 12) rfl b (k + j * 19) (itR x.1 x.2) _ rfl HR.out Try.underlying44 rfl (it_infoC HX16.out x.2)) ?_)
        | (refine wpList_store_fresh rfl 44 (.tmp 7) (.tmp 13) rfl (itR x.1 x.2) _ wr.heap.size rfl rfl rfl (it_infoC HX16.out x.2) (by rw [it_len HX16.out]; rfl) (it_one _ _) ?_; refine Hid.out ?_))
      refine Lib.hid ?_
      have R1 := Lib.hid (rangeAll HBX.out)
      generalize wr.alloc (.cells (itR x.1 x.2).toArray 44) = W1 at *
      generalize wr.heap.size = C at *
      go_wp2_with (first
        | (refine plV rfl (itV x.1 x.2) (exec_load_any _ (.tmp 7) rfl C 0 (itR x.1 x.2) _ rfl R1.out Try.underlying44 rfl (it_infoC HX16.out x.2)) ?_)
        | (go_at_call 41; refine HC1.out.mono ?_; rintro e W2 ⟨rfl, b2⟩; refine Hid.out ?_))
      refine Lib.hid ?_
      have HB2 := Lib.hid (below_up HB1.out b2 HB1.out.size)
      have HO2 := Lib.hid (own_below HO1.out b2)
      have HBX2 := Lib.hid (HBX.out.up b2)
      clear b2 HB1 HO1 HBX R1 HC1
      have HTF2 := HTF.out
      cases hfx : f x with
      | false =>
        rw [hfx] at HTF2
        simp only [Bool.false_eq_true, if_false, List.append_nil] at HTF2
        have HT2 := Lib.hid HTF2
        clear HTF2 HTF
        go_wp2
        go_roundw
        case rel => exact ⟨j + 1, by omega, by go_num, by rw [HT2.out]; exact HO2.out, HB2.out⟩
        case measure => simp [intOf]; omega
      | true =>
        rw [hfx] at HTF2
        simp only [if_true] at HTF2
        have HT2 := Lib.hid HTF2
        clear HTF2 HTF
        have R2 := Lib.hid (rangeAll HBX2.out)
        have hbA : Below W2.heap.size W2 (W2.alloc (.cells (itR x.1 x.2).toArray 44)) := (Below.refl _ _).alloc (Nat.le_refl _) _
        have HB3 := Lib.hid (below_up HB2.out hbA HB2.out.size)
        have HO3 := Lib.hid (own_below HO2.out hbA)
        have HI3 := Lib.hid (isC_one (x := x) HX16.out (show Bx (W2.alloc (.cells (itR x.1 x.2).toArray 44)) W2.heap.size 44 (itF x) from Bx.new W2 _ _))
        have hs3 := HB3.out.size
        clear hbA HB2 HO2 HBX2
        go_wp2_with (first
          | (refine plV rfl (itV x.1 x.2) (exec_load_any _ (.tmp 7) rfl C 0 (itR x.1 x.2) _ rfl R2.out Try.underlying44 rfl (it_infoC HX16.out x.2)) ?_)
          | (refine plV rfl (.slice (some ⟨W2.heap.size, 0, none⟩) 1 1) (exec_one_it (.tmp 18) rfl x.1 x.2 HX16.out rfl) ?_)
          | (at_builtin; refine append_flat rfl (.tmp 17) (.tmp 19) 56 rfl w.heap.size 44 ti (itV ⟨false, List.replicate 16 0, 0⟩ 0) 40 Try.underlying56 hti htz hts htb rfl (by decide) (by decide) _ _ _ rfl HO3.out (some ⟨W2.heap.size, 0, none⟩) 1 1 [x] rfl HI3.out (itF_ones _) (by have := HLEN.out; simp; omega) hs3 ?_; intro v4 w4 hown hgr; refine Hid.out ?_))
        refine Lib.hid ?_
        have HB4 := Lib.hid (own_grown HB3.out HO3.out hgr)
        have HO4 : Hid (w4.ownsRow w.heap.size 44 19 v4 ((L.take (j + 1)).filter f).length (((L.take (j + 1)).filter f).flatMap itF)) := Lib.hid (by
          rw [HT2.out, List.length_append, List.flatMap_append]
          exact hown)
        clear hown hgr
        go_wp2
        go_roundw
        case rel => exact ⟨j + 1, by omega, by go_num, HO4.out, HB4.out⟩
        case measure => simp [intOf]; omega
set_option maxRecDepth 100000 in
set_option maxHeartbeats 4000000 in
theorem keepK (f : Pfx × Int → Bool) (L : List (Pfx × Int)) (va : Option Addr) (cap B : Nat) (w : World) (hC : IsC itF 19 w (.slice va L.length cap) L) (hl : L.length ≤ 900000)
    (hcl : ∀ x ∈ L, ∀ W, Below w.heap.size w W → Calls Try.prog 63 #[itV x.1 x.2, .pointer (some ⟨B, 0, none⟩)] W fun e W' => e = .returned (.bool (f x)) ∧ Below W.heap.size W W') :
    Calls Try.prog 40 #[.slice va L.length cap, .func (.func 63) #[] #[.pointer (some ⟨B, 0, none⟩)]] w fun e w' => ∃ v, e = .returned v ∧ w'.ownsRow w.heap.size 44 19 v (L.filter f).length ((L.filter f).flatMap itF) ∧ Below w.heap.size w w' := by
  have HC := Lib.hid hC
  have HCL := Lib.hid hcl
  obtain ⟨_, hcap, hcm, _⟩ := hC.shape
  unfold maxLen at hcm
  obtain ⟨ti, hti, htz, hts, htb⟩ := info_parts it_infoF
  clear hC hcl
  go_enter Try.func40, Try.ntmps40
  go_wp2
  go_loopw [5, 7, 10] (fun kv _ iv wr => ∃ j : Nat, j ≤ L.length ∧ iv = .int .i64 (j : Int) ∧ wr.ownsRow w.heap.size 44 19 kv ((L.take j).filter f).length (((L.take j).filter f).flatMap itF) ∧ Below w.heap.size w wr) (fun _ _ iv _ => L.length - (intOf iv).toNat)
  case atStart => exact ⟨0, by omega, rfl, World.ownsRow_nil _ _ _ _, Below.refl _ _⟩
  case round =>
    obtain ⟨j, hj, rfl, hown, hbw⟩ := hrel
    by_cases hje : j = L.length
    · subst hje
      rw [List.take_length] at hown
      have HOWN := Lib.hid hown
      have HBW := Lib.hid hbw
      clear hown hbw
      go_wp2
      go_ret
      exact ⟨_, rfl, HOWN.out, HBW.out⟩
    · have hlt : j < L.length := by omega
      obtain ⟨x, hx⟩ : ∃ x, L[j]? = some x := ⟨_, List.getElem?_eq_getElem hlt⟩
      have hx16 := itF_addr (HC.out.1 x (List.mem_of_getElem? hx))
      obtain ⟨b, k, rfl, hbl, hr⟩ := isC_at (HC.out.below hbw) j x hx
      have hjj : (j : Int) < (L.length : Int) := by omega
      have HR := Lib.hid hr
      have HX16 := Lib.hid hx16
      have hbb : Below wr.heap.size wr (wr.alloc (.cells (itR x.1 x.2).toArray 44)) := (Below.refl _ _).alloc (Nat.le_refl _) _
      have hB1 := below_up hbw hbb hbw.size
      have HC1 := Lib.hid (HCL.out x (List.mem_of_getElem? hx) _ hB1)
      have HB1 := Lib.hid hB1
      have HO1 := Lib.hid (own_below hown hbb)
      have HBX := Lib.hid (Bx.new wr 44 (itR x.1 x.2))
      have HTF := Lib.hid (take_filter (f := f) hx)
      have hlen : ((L.take j).filter f).length ≤ j := Nat.le_trans (List.length_filter_le _ _) (by rw [List.length_take]; omega)
      have HLEN := Lib.hid hlen
      clear hr hx16 hbb hB1 hown hbw hx hlen
      go_wp2_with (first
        | (refine plV rfl (itV x.1 x.2) (exec_load_any _ (.tmp 12) rfl b (k + j * 19) (itR x.1 x.2) _ rfl HR.out Try.underlying44 rfl (it_infoC HX16.out x.2)) ?_)
        | (refine wpList_store_fresh rfl 44 (.tmp 7) (.tmp 13) rfl (itR x.1 x.2) _ wr.heap.size rfl rfl rfl (it_infoC HX16.out x.2) (by rw [it_len HX16.out]; rfl) (it_one _ _) ?_; refine Hid.out ?_))
      refine Lib.hid ?_
      have R1 := Lib.hid (rangeAll HBX.out)
      generalize wr.alloc (.cells (itR x.1 x.2).toArray 44) = W1 at *
      generalize wr.heap.size = C at *
      go_wp2_with (first
        | (refine plV rfl (itV x.1 x.2) (exec_load_any _ (.tmp 7) rfl C 0 (itR x.1 x.2) _ rfl R1.out Try.underlying44 rfl (it_infoC HX16.out x.2)) ?_)
        | (go_at_call 63; refine HC1.out.mono ?_; rintro e W2 ⟨rfl, b2⟩; refine Hid.out ?_))
      refine Lib.hid ?_
      have HB2 := Lib.hid (below_up HB1.out b2 HB1.out.size)
      have HO2 := Lib.hid (own_below HO1.out b2)
      have HBX2 := Lib.hid (HBX.out.up b2)
      clear b2 HB1 HO1 HBX R1 HC1
      have HTF2 := HTF.out
      cases hfx : f x with
      | false =>
        rw [hfx] at HTF2
        simp only [Bool.false_eq_true, if_false, List.append_nil] at HTF2
        have HT2 := Lib.hid HTF2
        clear HTF2 HTF
        go_wp2
        go_roundw
        case rel => exact ⟨j + 1, by omega, by go_num, by rw [HT2.out]; exact HO2.out, HB2.out⟩
        case measure => simp [intOf]; omega
      | true =>
        rw [hfx] at HTF2
        simp only [if_true] at HTF2
        have HT2 := Lib.hid HTF2
        clear HTF2 HTF
        have R2 := Lib.hid (rangeAll HBX2.out)
        have hbA : Below W2.heap.size W2 (W2.alloc (.cells (itR x.1 x.2).toArray 44)) := (Below.refl _ _).alloc (Nat.le_refl _) _
        have HB3 := Lib.hid (below_up HB2.out hbA HB2.out.size)
        have HO3 := Lib.hid (own_below HO2.out hbA)
        have HI3 := Lib.hid (isC_one (x := x) HX16.out (show Bx (W2.alloc (.cells (itR x.1 x.2).toArray 44)) W2.heap.size 44 (itF x) from Bx.new W2 _ _))
        have hs3 := HB3.out.size
        clear hbA HB2 HO2 HBX2
        go_wp2_with (first
          | (refine plV rfl (itV x.1 x.2) (exec_load_any _ (.tmp 7) rfl C 0 (itR x.1 x.2) _ rfl R2.out Try.underlying44 rfl (it_infoC HX16.out x.2)) ?_)
          | (refine plV rfl (.slice (some ⟨W2.heap.size, 0, none⟩) 1 1) (exec_one_it (.tmp 18) rfl x.1 x.2 HX16.out rfl) ?_)
          | (at_builtin; refine append_flat rfl (.tmp 17) (.tmp 19) 56 rfl w.heap.size 44 ti (itV ⟨false, List.replicate 16 0, 0⟩ 0) 40 Try.underlying56 hti htz hts htb rfl (by decide) (by decide) _ _ _ rfl HO3.out (some ⟨W2.heap.size, 0, none⟩) 1 1 [x] rfl HI3.out (itF_ones _) (by have := HLEN.out; simp; omega) hs3 ?_; intro v4 w4 hown hgr; refine Hid.out ?_))
        refine Lib.hid ?_
        have HB4 := Lib.hid (own_grown HB3.out HO3.out hgr)
        have HO4 : Hid (w4.ownsRow w.heap.size 44 19 v4 ((L.take (j + 1)).filter f).length (((L.take (j + 1)).filter f).flatMap itF)) := Lib.hid (by
          rw [HT2.out, List.length_append, List.flatMap_append]
          exact hown)
        clear hown hgr
        go_wp2
        go_roundw
        case rel => exact ⟨j + 1, by omega, by go_num, HO4.out, HB4.out⟩
        case measure => simp [intOf]; omega
end Go.Proofs.Ytgimcapcnidjjaa

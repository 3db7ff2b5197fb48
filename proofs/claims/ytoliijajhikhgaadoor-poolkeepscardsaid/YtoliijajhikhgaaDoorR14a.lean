/- The document's pool (footplateref14): New, Len, Get. -/
import Derived.Test.YtoliijajhikhgaaDoorPo9
namespace Go.Proofs.YtoliijajhikhgaaDoor
open Go Go.RowKit

/-- A slice by its three parts. -/
structure Ls where
  a : Option Addr
  n : Nat
  c : Nat
def Ls.v (s : Ls) : Value := .slice s.a s.n s.c
/-- A thing of the document's: its cells. -/
structure Th14 where
  k : Int
  i : Int
  t : ByteArray
  o : Int
  L : Ls
  p : Int
  b : Int
  R : Ls
  pp : Bool
  u : Int
def xR (x : Th14) : List Value := [.int .i64 x.k, .int .i64 x.i, .string x.t, .int .i64 x.o, x.L.v, .int .i64 x.p, .int .i64 x.b, x.R.v, .bool x.pp, .int .i64 x.u]
def th0 : Th14 := ⟨0, 0, ⟨#[]⟩, 0, ⟨none, 0, 0⟩, 0, 0, ⟨none, 0, 0⟩, false, 0⟩
theorem x14_info : (Tryd.prog.info? 50).map (·.size) = some 10 := by kernel_rfl
theorem x14_infoF : (Tryd.prog.info? 50).map (fun i => (i.zero, i.size, i.bytes)) = some (some (.agg (xR th0).toArray), 10, 120) := by kernel_rfl
theorem x14_len (D : List Th14) : ∀ x ∈ D, (xR x).length = 10 := fun _ _ => rfl
theorem x14_one (x : Th14) : ∀ v ∈ xR x, v.oneCell' = true := by
  intro v hv
  simp only [xR, List.mem_cons, List.not_mem_nil, or_false] at hv
  rcases hv with rfl | rfl | rfl | rfl | rfl | rfl | rfl | rfl | rfl | rfl <;> rfl
theorem x14_all (D : List Th14) : ∀ v ∈ D.flatMap xR, v.oneCell' = true := by
  intro v hv
  obtain ⟨x, _, hx⟩ := List.mem_flatMap.1 hv
  exact x14_one x v hx
def p14R (is : Bool) (room : Int) (v : Value) : List Value := [.bool is, .int .i64 room, v]
def p14V (is : Bool) (room : Int) (v : Value) : Value := .agg (p14R is room v).toArray
theorem p14_info : (Tryd.prog.info? 32).map (·.size) = some 3 := by kernel_rfl
theorem p14_one (is : Bool) (room : Int) (v : Value) (hv : v.oneCell' = true) : ∀ u ∈ p14R is room v, u.oneCell' = true := by
  intro u hu
  unfold p14R at hu
  simp only [List.mem_cons] at hu
  rcases hu with rfl | rfl | rfl | hu
  · rfl
  · rfl
  · exact hv
  · cases hu
theorem built_p14 (room : Int) : Tryd.prog.built 32 [(0, .bool true), (1, .int .i64 room)] = some (p14R true room (.slice none 0 0)).toArray := by kernel_rfl
theorem built_x14 : Tryd.prog.built 50 [] = some (xR th0).toArray := by kernel_rfl
/-- how often each is used -/
def usX (D : List Th14) : List Int := D.map (·.u)
theorem usX_len (D : List Th14) : (usX D).length = D.length := List.length_map _
def getX (D : List Th14) (id : Int) : Th14 := if 0 ≤ id ∧ id < D.length ∧ usN (usX D) id.toNat ≠ 0 then D.getD id.toNat th0 else th0
theorem usX_at {D : List Th14} {i : Nat} {x : Th14} (h : D[i]? = some x) : usN (usX D) i = x.u := usN_of (by unfold usX; rw [List.getElem?_map, h]; rfl)
theorem getX_at {D : List Th14} {i : Nat} {x : Th14} (h : D[i]? = some x) (hu : x.u ≠ 0) : getX D (i : Int) = x := by
  have := (List.getElem?_eq_some_iff.1 h).1
  unfold getX
  rw [if_pos ⟨by omega, by omega, by rw [Int.toNat_natCast, usX_at h]; exact hu⟩, Int.toNat_natCast, List.getD_eq_getElem?_getD, h]
  rfl
theorem getX_no {D : List Th14} {i : Nat} {x : Th14} (h : D[i]? = some x) (hu : x.u = 0) : getX D (i : Int) = th0 := by
  unfold getX
  rw [if_neg (fun q => q.2.2 (by rw [Int.toNat_natCast, usX_at h]; exact hu))]
theorem getX_out {D : List Th14} {id : Int} (h : ¬ (0 ≤ id ∧ id < D.length)) : getX D id = th0 := if_neg (fun q => h ⟨q.1, q.2.1⟩)
theorem cntX_take (D : List Th14) (j : Nat) (x : Th14) (hx : D[j]? = some x) : cntU (usX (D.take (j + 1))) = cntU (usX (D.take j)) + (if 0 < x.u then 1 else 0) := by
  obtain ⟨hl, rfl⟩ := List.getElem?_eq_some_iff.1 hx
  unfold cntU usX
  rw [List.take_succ_eq_append_getElem hl, List.map_append, List.countP_append]
  simp
set_option maxRecDepth 100000 in
set_option maxHeartbeats 4000000 in
theorem rnew14 (room : Int) (w : World) (h1 : 1 ≤ room) (h2 : room ≤ 65536) : Calls Tryd.prog 8 #[.int .i64 room] w fun e w' => e = .returned (p14V true room (.slice none 0 0)) ∧ Below w.heap.size w w' := by
  have ez : (#[.bool false, .int .i64 0, .slice none 0 0] : Array Value) = (p14R false 0 (.slice none 0 0)).toArray := rfl
  have HX := Lib.hid (Bx.new w 32 (p14R false 0 (.slice none 0 0)))
  have HB := Lib.hid ((Below.refl w.heap.size w).alloc (Nat.le_refl _) (.cells (p14R false 0 (.slice none 0 0)).toArray 32))
  go_enter Tryd.func8, Tryd.ntmps8
  go_wp2_with (first
    | (refine plV rfl (p14V true room (.slice none 0 0)) (exec_build2 _ 0 1 _ (.tmp 10) rfl (.bool true) (.int .i64 room) (p14R true room (.slice none 0 0)) rfl rfl (built_p14 room)) ?_)
    | (refine wpList_store_bx rfl 32 (.tmp 2) (.tmp 11) rfl w.heap.size (p14R true room (.slice none 0 0)) (p14R false 0 (.slice none 0 0)) rfl rfl HX.out p14_info rfl (p14_one _ _ _ rfl) ?_; refine Hid.out ?_))
  refine Lib.hid ?_
  go_wp2
  exact bodyPost_ret (results_cell_row Tryd.results8 _ _ w.heap.size _ _ _ _ rfl (HX.out.row _) Tryd.underlying32 rfl p14_info) rfl ⟨rfl, below_row HB.out (Nat.le_refl _) _⟩
/-- one of a slice of things -/
theorem isX_at {W : World} {a : Option Addr} {n cap : Nat} {D : List Th14} (h : IsC xR 10 W (.slice a n cap) D) (j : Nat) (x : Th14) (hx : D[j]? = some x) : ∃ b k, a = some ⟨b, k, none⟩ ∧ b < W.heap.size ∧ W.rangeAt b (k + j * 10) (xR x) := by
  have hj := (List.getElem?_eq_some_iff.1 hx).1
  obtain ⟨rfl, h1, h2, h3⟩ := h.shape
  obtain ⟨b, k, e, hb, hr⟩ := h3 (by omega)
  exact ⟨b, k, e, hb, flat_range (x14_len D) hr j x hx⟩
set_option maxRecDepth 100000 in
set_option maxHeartbeats 4000000 in
theorem rlen14 (is : Bool) (room : Int) (v : Value) (D : List Th14) (w : World) (hC : IsC xR 10 w v D) (hD : D.length ≤ 100000) :
    Calls Tryd.prog 15 #[p14V is room v] w fun e w' => e = .returned (.int .i64 (cntU (usX D) : Int)) ∧ Below w.heap.size w w' := by
  obtain ⟨a, cap, rfl⟩ := isc_slice hC
  have hB := (Below.refl w.heap.size w).alloc (Nat.le_refl _) (.cells (p14R is room (.slice a D.length cap)).toArray 32)
  have HX := Lib.hid (Bx.new w 32 (p14R is room (.slice a D.length cap)))
  have HC := Lib.hid (hC.below hB)
  have HB := Lib.hid hB
  have c2 := (HX.out.cell 2).trans (show _ = some (.slice a D.length cap) from rfl)
  rw [show p14V is room (.slice a D.length cap) = .agg (p14R is room (.slice a D.length cap)).toArray from rfl]
  clear hC hB
  go_enter Tryd.func15, Tryd.ntmps15
  go_wp2_with fail
  generalize w.alloc (.cells (p14R is room (.slice a D.length cap)).toArray 32) = W at *
  go_loopw [3, 4] (fun m r wr => ∃ j : Nat, j ≤ D.length ∧ r = .int .i64 (j : Int) ∧ m = .int .i64 (cntU (usX (D.take j)) : Int) ∧ W = wr) (fun _ r _ => D.length - (intOf r).toNat)
  case atStart => exact ⟨0, Nat.zero_le _, rfl, rfl, rfl⟩
  case round =>
    obtain ⟨j, hj, rfl, rfl, rfl⟩ := hrel
    by_cases hlt : j < D.length
    · have hlti : (j : Int) < (D.length : Int) := by omega
      have h0j : ¬ (j : Int) < 0 := by omega
      obtain ⟨x, hx⟩ : ∃ x, D[j]? = some x := ⟨_, List.getElem?_eq_getElem hlt⟩
      obtain ⟨b, k, rfl, hbw, hr⟩ := isX_at HC.out j x hx
      have c9 : W.cell? ⟨b, k + j * 10 + 9, none⟩ = some (.int .i64 x.u) := hr 9 _ rfl
      have hct := cntX_take D j x hx
      have hcl : cntU (usX (D.take j)) ≤ D.length := Nat.le_trans (cntU_le _) (by rw [usX_len, List.length_take]; omega)
      obtain ⟨c, hc⟩ : ∃ c, c = cntU (usX (D.take j)) := ⟨_, rfl⟩
      rw [← hc] at hct hcl ⊢
      have kj : IntKind.i64.wrap ((j : Int) + 1) = (j : Int) + 1 := by simp [IntKind.wrap, IntKind.bits, IntKind.signed]; omega
      have kc : IntKind.i64.wrap ((c : Int) + 1) = (c : Int) + 1 := by simp [IntKind.wrap, IntKind.bits, IntKind.signed]; omega
      by_cases hu : 0 < x.u
      · have hu1 : x.u > 0 := hu
        rw [if_pos hu] at hct
        have HCT := Lib.hid hct
        clear hr hx hct hc hcl
        go_wp2
        go_roundw
        case rel => exact ⟨j + 1, hlt, by go_num, by rw [HCT.out]; go_num, by first | rfl | trivial⟩
        case measure => simp [intOf]; omega
      · have hu1 : ¬ x.u > 0 := hu
        rw [if_neg hu] at hct
        have HCT := Lib.hid hct
        clear hr hx hct hc hcl
        go_wp2
        go_roundw
        case rel => exact ⟨j + 1, hlt, by go_num, by rw [HCT.out]; rfl, by first | rfl | trivial⟩
        case measure => simp [intOf]; omega
    · obtain rfl : j = D.length := by omega
      have hni : ¬ (D.length : Int) < (D.length : Int) := by omega
      go_wp2
      go_ret
      exact ⟨rfl, HB.out⟩
set_option maxRecDepth 100000 in
set_option maxHeartbeats 8000000 in
theorem rget14 (is : Bool) (room : Int) (v : Value) (D : List Th14) (id : Int) (w : World) (hC : IsC xR 10 w v D) :
    Calls Tryd.prog 18 #[p14V is room v, .int .i64 id] w fun e w' => e = .returned (.agg (xR (getX D id)).toArray) ∧ Below w.heap.size w w' := by
  obtain ⟨a, cap, rfl⟩ := isc_slice hC
  have H2 := twoB_new w 32 50 (p14R is room (.slice a D.length cap)) (xR th0)
  have HC := Lib.hid (hC.below H2.2.2)
  have HX := Lib.hid H2.1
  have HZ := Lib.hid H2.2.1
  have HB := Lib.hid H2.2.2
  have ez : (#[.int .i64 0, .int .i64 0, .string ⟨#[]⟩, .int .i64 0, .slice none 0 0, .int .i64 0, .int .i64 0, .slice none 0 0, .bool false, .int .i64 0] : Array Value) = (xR th0).toArray := rfl
  have c2 := (HX.out.cell 2).trans (show _ = some (.slice a D.length cap) from rfl)
  rw [show p14V is room (.slice a D.length cap) = .agg (p14R is room (.slice a D.length cap)).toArray from rfl]
  clear hC H2
  by_cases hid : 0 ≤ id ∧ id < D.length
  · obtain ⟨i, rfl⟩ : ∃ i : Nat, id = (i : Int) := ⟨id.toNat, (Int.toNat_of_nonneg hid.1).symm⟩
    have hi : i < D.length := by omega
    obtain ⟨x, hx⟩ : ∃ x, D[i]? = some x := ⟨_, List.getElem?_eq_getElem hi⟩
    obtain ⟨b, k, rfl, hbw, hr⟩ := isX_at HC.out i x hx
    have HR := Lib.hid hr
    have c9 : ((w.alloc (.cells (p14R is room (.slice (some ⟨b, k, none⟩) D.length cap)).toArray 32)).alloc (.cells (xR th0).toArray 50)).cell? ⟨b, k + i * 10 + 9, none⟩ = some (.int .i64 x.u) := hr 9 _ rfl
    have g1 : ¬ (i : Int) < 0 := by omega
    have g2 : ¬ (i : Int) ≥ (D.length : Int) := by omega
    have g3 : (i : Int) < (D.length : Int) := by omega
    by_cases hu : x.u = 0
    · rw [getX_no hx hu]
      have hub : (x.u == 0) = true := by simpa using hu
      clear hx hid hr
      go_enter Tryd.func18, Tryd.ntmps18
      go_wp2_with (first
        | (refine wpList_build0 rfl 50 rfl (xR th0) built_x14 ?_)
        | (refine wpList_store_bx rfl 50 (.tmp 4) (.tmp 23) rfl (w.heap.size + 1) (xR th0) (xR th0) rfl rfl HZ.out x14_info rfl (x14_one _) ?_; refine Hid.out ?_))
      refine Lib.hid ?_
      go_wp2
      exact bodyPost_ret (results_cell_row Tryd.results18 _ _ (w.heap.size + 1) _ _ _ _ rfl (HZ.out.row _) Tryd.underlying50 rfl x14_info) rfl ⟨rfl, below_row HB.out (Nat.le_succ _) _⟩
    · rw [getX_at hx hu]
      have hub : (x.u == 0) = false := by simpa using hu
      clear hx hid hr
      go_enter Tryd.func18, Tryd.ntmps18
      go_wp2_with (first
        | (refine plV rfl (.agg (xR x).toArray) (exec_load_any _ (.tmp 27) rfl b (k + i * 10) (xR x) _ rfl HR.out Tryd.underlying50 rfl x14_info) ?_)
        | (refine wpList_store_bx rfl 50 (.tmp 4) (.tmp 28) rfl (w.heap.size + 1) (xR x) (xR th0) rfl rfl HZ.out x14_info rfl (x14_one _) ?_; refine Hid.out ?_))
      refine Lib.hid ?_
      go_wp2
      exact bodyPost_ret (results_cell_row Tryd.results18 _ _ (w.heap.size + 1) _ _ _ _ rfl (HZ.out.row _) Tryd.underlying50 rfl x14_info) rfl ⟨rfl, below_row HB.out (Nat.le_succ _) _⟩
  · rw [getX_out hid]
    by_cases h0 : id < 0
    · go_enter Tryd.func18, Tryd.ntmps18
      go_wp2_with (first
        | (refine wpList_build0 rfl 50 rfl (xR th0) built_x14 ?_)
        | (refine wpList_store_bx rfl 50 (.tmp 4) (.tmp 23) rfl (w.heap.size + 1) (xR th0) (xR th0) rfl rfl HZ.out x14_info rfl (x14_one _) ?_; refine Hid.out ?_))
      refine Lib.hid ?_
      go_wp2
      exact bodyPost_ret (results_cell_row Tryd.results18 _ _ (w.heap.size + 1) _ _ _ _ rfl (HZ.out.row _) Tryd.underlying50 rfl x14_info) rfl ⟨rfl, below_row HB.out (Nat.le_succ _) _⟩
    · have g2 : id ≥ (D.length : Int) := by omega
      go_enter Tryd.func18, Tryd.ntmps18
      go_wp2_with (first
        | (refine wpList_build0 rfl 50 rfl (xR th0) built_x14 ?_)
        | (refine wpList_store_bx rfl 50 (.tmp 4) (.tmp 23) rfl (w.heap.size + 1) (xR th0) (xR th0) rfl rfl HZ.out x14_info rfl (x14_one _) ?_; refine Hid.out ?_))
      refine Lib.hid ?_
      go_wp2
      exact bodyPost_ret (results_cell_row Tryd.results18 _ _ (w.heap.size + 1) _ _ _ _ rfl (HZ.out.row _) Tryd.underlying50 rfl x14_info) rfl ⟨rfl, below_row HB.out (Nat.le_succ _) _⟩
end Go.Proofs.YtoliijajhikhgaaDoor

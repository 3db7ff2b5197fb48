/- sort.Search, slices.BinarySearchFunc at blocks: where the search ends; rows near a span, the place of a block (package space). Package space: the place of a block. Package space: rows near a span; the place of a block; what meets; gaps. -/
import Derived.Test.YtgelbeglffjdaaaIns12
import Derived.Test.YtgelbeglffjdaaaSp8
import Derived.Deep.LoopGhost
import Derived.Test.YtgelbeglffjdaaaSpA
namespace Go.Proofs.Ytgelbeglffjdaaa
open Go Go.RowKit Go.Shelf
attribute [local go_sem] Oper.semAt_some

set_option maxRecDepth 100000 in
set_option maxHeartbeats 2000000 in
/-- Where 'f' turns true. -/
theorem search_any (g : Nat) (cb : Array Value) (n k : Nat) (p : Nat → Bool) (w : World) (eg : ∀ args w, (callFunc g args).run Try.prog w = .ok (.enter g args) w) (hn : n ≤ 1000000) (hk : k ≤ n) (hlo : ∀ t, t < k → p t = false) (hhi : ∀ t, k ≤ t → t < n → p t = true)
    (hf : ∀ (W : World) (i : Nat), Below w.heap.size w W → i < n → Calls Try.prog g (#[.int .i64 i] ++ cb) W fun e w' => e = .returned (.bool (p i)) ∧ Below W.heap.size W w') :
    Calls Try.prog 99 #[.int .i64 n, .func (.func g) #[] cb] w fun e w' => e = .returned (.int .i64 (k : Int)) ∧ Below w.heap.size w w' := by
  have HF := Lib.hid hf
  have HLO := Lib.hid hlo
  have HHI := Lib.hid hhi
  clear hf hlo hhi
  go_enter Try.func99, Try.ntmps99
  go_wp2
  go_loopg [5, 6] n (fun kx s5 s6 wr => ∃ (lo hi : Nat), s5 = .int .i64 lo ∧ s6 = .int .i64 hi ∧ lo ≤ k ∧ k ≤ hi ∧ hi ≤ n ∧ hi - lo ≤ kx ∧ Hid (Below w.heap.size w wr))
  case atStart => exact ⟨0, n, rfl, rfl, Nat.zero_le _, hk, Nat.le_refl _, by omega, Lib.hid (Below.refl _ _)⟩
  case round =>
    obtain ⟨lo, hi, rfl, rfl, hlk, hkh, hin, hg, HB⟩ := hrel
    by_cases hlt : lo < hi
    · obtain ⟨md, hmd⟩ : ∃ md, md = (lo + hi) / 2 := ⟨_, rfl⟩
      have kw : ((lo : Int) + (hi : Int)) / 2 = (md : Int) := by omega
      have hm1 : lo ≤ md := by omega
      have hm2 : md < hi := by omega
      have hc := Lib.hid (HF.out wr md HB.out (by omega))
      have kw2 : IntKind.i64.wrap ((md : Int) + 1) = ((md + 1 : Nat) : Int) := by simp [IntKind.wrap, IntKind.bits, IntKind.signed]; omega
      clear hmd
      by_cases hp : md < k
      · rw [HLO.out md hp] at hc
        go_wp2_with (go_at_fn g; refine hc.out.mono ?_; rintro e w1 ⟨rfl, b1⟩; refine Hid.out ?_)
        refine Lib.hid ?_
        have HB1 := Lib.hid (below_up HB.out b1 HB.out.size)
        clear b1
        go_wp2
        go_roundg (hi - (md + 1))
        case measure => omega
        case rel => exact ⟨md + 1, hi, rfl, rfl, by omega, hkh, hin, Nat.le_refl _, HB1⟩
      · rw [HHI.out md (by omega) (by omega)] at hc
        go_wp2_with (go_at_fn g; refine hc.out.mono ?_; rintro e w1 ⟨rfl, b1⟩; refine Hid.out ?_)
        refine Lib.hid ?_
        have HB1 := Lib.hid (below_up HB.out b1 HB.out.size)
        clear b1
        go_wp2
        go_roundg (md - lo)
        case measure => omega
        case rel => exact ⟨lo, md, rfl, rfl, hlk, by omega, by omega, Nat.le_refl _, HB1⟩
    · have e1 : lo = k := by omega
      subst e1
      go_wp2
      go_ret
      exact ⟨rfl, HB.out⟩
/-- A box that holds a space's rows: the row of blocks, the rows of labels. -/
def OwnP (W : World) (pt : Nat) (vb vr : Value) : Prop := W.cell? ⟨pt, 6, none⟩ = some vb ∧ W.cell? ⟨pt, 7, none⟩ = some vr
theorem OwnP.up {W W' : World} {pt : Nat} {vb vr : Value} (h : OwnP W pt vb vr) (hpt : pt < W.heap.size) (hb : Below W.heap.size W W') : OwnP W' pt vb vr := ⟨(hb.cell (p := ⟨pt, 6, none⟩) hpt).trans h.1, (hb.cell (p := ⟨pt, 7, none⟩) hpt).trans h.2⟩
def HeldN1 (bo bs pt : Nat) (vr : Value) (rb rk : Nat) (r s : Spn) (W : World) : Prop :=
  W.cell? ⟨bo, 0, none⟩ = some (.pointer (some ⟨pt, 6, none⟩)) ∧ W.cell? ⟨pt, 7, none⟩ = some vr ∧ W.cell? ⟨bs, 0, none⟩ = some (.int .i64 s.f) ∧ W.cell? ⟨bs, 1, none⟩ = some (.int .i64 s.l) ∧ W.cell? ⟨rb, rk, none⟩ = some (.int .i64 r.f) ∧ W.cell? ⟨rb, rk + 1, none⟩ = some (.int .i64 r.l)
set_option maxRecDepth 100000 in
set_option maxHeartbeats 2000000 in
theorem near1_any (bo bs pt : Nat) (vr : Value) (rs : List Spn) (s : Spn) (hs : mayO s) (hrs : ∀ r ∈ rs, mayS r) (i : Nat) (r : Spn) (hr : rs[i]? = some r) (hl : rs.length ≤ 1000000) (w : World) (hI : IsS w vr rs)
    (h0 : w.cell? ⟨bo, 0, none⟩ = some (.pointer (some ⟨pt, 6, none⟩))) (h1 : w.cell? ⟨pt, 7, none⟩ = some vr) (h2 : w.cell? ⟨bs, 0, none⟩ = some (.int .i64 s.f)) (h3 : w.cell? ⟨bs, 1, none⟩ = some (.int .i64 s.l)) :
    Calls Try.prog 100 #[.int .i64 i, .pointer (some ⟨bo, 0, none⟩), .pointer (some ⟨bs, 0, none⟩)] w (fun e w' => e = .returned (.bool (decide (s.f - 1 ≤ r.l))) ∧ Below w.heap.size w w') ∧
    Calls Try.prog 101 #[.int .i64 i, .pointer (some ⟨bo, 0, none⟩), .pointer (some ⟨bs, 0, none⟩)] w (fun e w' => e = .returned (.bool (decide (s.l + 1 < r.f))) ∧ Below w.heap.size w w') := by
  have hil := (List.getElem?_eq_some_iff.1 hr).1
  obtain ⟨a, cap, rfl, hcap⟩ := IsS.form hI
  obtain ⟨_, _, _, hcell⟩ := hI.shape
  obtain ⟨rb, rk, rfl, _, _⟩ := hcell (by omega)
  have hrg := IsS.range hI i r hr
  have x0 := rng0 hrg
  have x1 := rng1 hrg
  have hrm := hrs r (List.mem_of_getElem? hr)
  unfold mayO at hs
  unfold mayS at hrm
  have k1 : IntKind.i64.wrap (s.f - 1) = s.f - 1 := by simp [IntKind.wrap, IntKind.bits, IntKind.signed]; omega
  have k2 : IntKind.i64.wrap (s.l + 1) = s.l + 1 := by simp [IntKind.wrap, IntKind.bits, IntKind.signed]; omega
  have hi1 : (0 : Int) ≤ (i : Int) := by omega
  have hi2 : (i : Int) < (rs.length : Int) := by omega
  have HDR := Lib.hid (Below.refl w.heap.size w).drew
  have mixed : Try.prog.follows .mixedOrders = true := by kernel_rfl
  clear hrg hcell hI hrs hr
  constructor
  · go_enter Try.func100, Try.ntmps100
    go_wp2
    go_region
    go_wp2
    go_ret
    exact ⟨rfl, HDR.out⟩
  · go_enter Try.func101, Try.ntmps101
    go_wp2
    go_region
    go_wp2
    go_ret
    exact ⟨rfl, HDR.out⟩
end Go.Proofs.Ytgelbeglffjdaaa
namespace Go.Proofs.Ytgelbeglffjdaaa
open Go Go.RowKit Go.Shelf
attribute [local go_sem] Oper.semAt_some

abbrev IsK (w : World) (v : Value) (l : List Blk) : Prop := IsC bR 4 w v l
theorem IsK.form {w : World} {v : Value} {l : List Blk} (h : IsK w v l) : ∃ a c, v = .slice a l.length c ∧ c ≤ 9223372036854775807 := by
  obtain ⟨_, a, c, h1, _, h2, _⟩ := h
  exact ⟨a, c, h1, by unfold maxLen at h2; omega⟩
theorem IsK.range {w : World} {b k n cap : Nat} {l : List Blk} (h : IsK w (.slice (some ⟨b, k, none⟩) n cap) l) (i : Nat) (x : Blk) (hx : l[i]? = some x) : w.rangeAt b (k + i * 4) (bR x) := by
  obtain ⟨rfl, _, _, h3⟩ := h.shape
  have hi := (List.getElem?_eq_some_iff.1 hx).1
  obtain ⟨b2, k2, e, _, hc⟩ := h3 (by omega)
  cases e
  exact flat_range (bR_all l) hc i x hx
theorem blk_info : (Try.prog.info? 47).map (·.size) = some 4 := by kernel_rfl
def cmpK (b : Blk) (n : Int) : Int := if b.s.l < n then -1 else if n < b.s.f then 1 else 0
set_option maxRecDepth 100000 in
set_option maxHeartbeats 2000000 in
theorem place1_any (b : Blk) (n : Int) (w : World) : Calls Try.prog 96 #[bV b, .int .i64 n] w fun e w' => e = .returned (.int .i64 (cmpK b n)) ∧ Below w.heap.size w w' := by
  have HB := Lib.hid ((Below.refl w.heap.size w).alloc (Nat.le_refl _) (.cells (bR b).toArray 47))
  have hN := Bx.new w 47 (bR b)
  have c0 : (w.alloc (.cells (bR b).toArray 47)).cell? ⟨w.heap.size, 0, none⟩ = some (.int .i64 b.s.f) := by rw [hN.cell]; rfl
  have c1 : (w.alloc (.cells (bR b).toArray 47)).cell? ⟨w.heap.size, 1, none⟩ = some (.int .i64 b.s.l) := by rw [hN.cell]; rfl
  rw [show bV b = .agg (bR b).toArray from rfl]
  unfold cmpK
  clear hN
  by_cases h1 : b.s.l < n
  · rw [if_pos h1]
    go_enter Try.func96, Try.ntmps96
    go_wp2
    go_ret
    exact ⟨rfl, HB.out⟩
  · rw [if_neg h1]
    by_cases h2 : n < b.s.f
    · rw [if_pos h2]
      go_enter Try.func96, Try.ntmps96
      go_wp2
      go_ret
      exact ⟨rfl, HB.out⟩
    · rw [if_neg h2]
      go_enter Try.func96, Try.ntmps96
      go_wp2
      go_ret
      exact ⟨rfl, HB.out⟩
theorem Place.low {n : Int} {l A Z : List Blk} (h : Place n l A Z) (t : Nat) (x : Blk) (hx : l[t]? = some x) : (t < A.length → cmpK x n < 0) ∧ (A.length ≤ t → ¬ cmpK x n < 0) := by
  have he := h.eq
  constructor
  · intro ht
    rw [he, List.getElem?_append_left ht] at hx
    have := h.a x (List.mem_of_getElem? hx)
    unfold cmpK
    rw [if_pos this]
    decide
  · intro ht
    rw [he, List.getElem?_append_right ht] at hx
    have := h.z x (List.mem_of_getElem? hx)
    unfold cmpK
    rw [if_neg (by omega)]
    split <;> decide
theorem Place.hit {n : Int} {l A Z : List Blk} (h : Place n l A Z) (x : Blk) (hx : l[A.length]? = some x) : (atB n Z).isSome = decide (cmpK x n = 0) := by
  rw [h.eq, List.getElem?_append_right (Nat.le_refl _), Nat.sub_self] at hx
  cases Z with
  | nil => cases hx
  | cons z Z =>
    simp only [List.getElem?_cons_zero, Option.some.injEq] at hx
    subst hx
    have h1 := h.z z List.mem_cons_self
    rw [show atB n (z :: Z) = if z.s.f ≤ n then some z else none from rfl]
    unfold cmpK
    rw [if_neg (show ¬ z.s.l < n by omega)]
    by_cases h2 : n < z.s.f
    · rw [if_pos h2, if_neg (show ¬ z.s.f ≤ n by omega)]; rfl
    · rw [if_neg h2, if_pos (show z.s.f ≤ n by omega)]; rfl
theorem Place.over {n : Int} {l A Z : List Blk} (h : Place n l A Z) (hx : ¬ A.length < l.length) : (atB n Z).isSome = false := by
  rw [h.eq, List.length_append] at hx
  have : Z = [] := List.eq_nil_of_length_eq_zero (by omega)
  subst this
  rfl
set_option maxRecDepth 100000 in
set_option maxHeartbeats 2000000 in
theorem bsearch_any (v : Value) (l A Z : List Blk) (n : Int) (hP : Place n l A Z) (w : World) (hI : IsK w v l) (hl : l.length ≤ 100000) :
    Calls Try.prog 95 #[v, .int .i64 n, .func (.func 96) #[] #[]] w fun e w' => e = .returned (.tuple #[.int .i64 (A.length : Int), .bool (atB n Z).isSome]) ∧ Below w.heap.size w w' := by
  obtain ⟨a, cap, rfl, hcap⟩ := hI.form
  have hkn : A.length ≤ l.length := by rw [hP.eq, List.length_append]; omega
  have HP := Lib.hid hP
  have HI := Lib.hid hI
  have HC := Lib.hid (fun b W => place1_any b n W)
  obtain ⟨k, hk⟩ : ∃ k, A.length = k := ⟨_, rfl⟩
  have HK := Lib.hid hk
  rw [hk] at hkn ⊢
  obtain ⟨ht, hht⟩ : ∃ ht, (atB n Z).isSome = ht := ⟨_, rfl⟩
  rw [hht]
  have HHT := Lib.hid hht
  clear hP hI hk hht
  go_enter Try.func95, Try.ntmps95
  go_wp2
  go_loopg [9, 10] l.length (fun kx s5 s6 wr => ∃ (lo hi : Nat), s5 = .int .i64 lo ∧ s6 = .int .i64 hi ∧ lo ≤ k ∧ k ≤ hi ∧ hi ≤ l.length ∧ hi - lo ≤ kx ∧ Hid (Below w.heap.size w wr))
  case atStart => exact ⟨0, l.length, rfl, rfl, Nat.zero_le _, hkn, Nat.le_refl _, by omega, Lib.hid (Below.refl _ _)⟩
  case round =>
    obtain ⟨lo, hi, rfl, rfl, hlk, hkh, hin, hg, HB⟩ := hrel
    by_cases hlt : lo < hi
    · obtain ⟨md, hmd⟩ : ∃ md, md = (lo + hi) / 2 := ⟨_, rfl⟩
      have kw : ((lo : Int) + (hi : Int)) / 2 = (md : Int) := by omega
      have hm1 : lo ≤ md := by omega
      have hm2 : md < hi := by omega
      have kw2 : IntKind.i64.wrap ((md : Int) + 1) = ((md + 1 : Nat) : Int) := by simp [IntKind.wrap, IntKind.bits, IntKind.signed]; omega
      obtain ⟨x, hx⟩ : ∃ x, l[md]? = some x := ⟨_, List.getElem?_eq_getElem (by omega)⟩
      obtain ⟨b, o, rfl⟩ : ∃ b o, a = some ⟨b, o, none⟩ := by
        obtain ⟨_, _, _, h4⟩ := HI.out.shape
        obtain ⟨b, o, e1, _⟩ := h4 (by omega)
        exact ⟨b, o, e1⟩
      have hr := Lib.hid (IsK.range (HI.out.below HB.out) md x hx)
      have hi1 : (md : Int) < (l.length : Int) := by omega
      have hi0 : (0 : Int) ≤ (md : Int) := by omega
      obtain ⟨hp1, hp2⟩ := HP.out.low md x hx
      rw [HK.out] at hp1 hp2
      clear hmd hx
      by_cases hp : md < k
      · have hc1 := hp1 hp
        go_wp2_with (first
          | (refine plV rfl (bV x) (exec_load_any 47 _ rfl b (o + md * 4) (bR x) _ rfl hr.out Try.underlying47 rfl blk_info) ?_)
          | (go_at_call 96; refine (HC.out x _).mono ?_; rintro e w1 ⟨rfl, b1⟩; refine Hid.out ?_))
        refine Lib.hid ?_
        have HB1 := Lib.hid (below_up HB.out b1 HB.out.size)
        clear b1
        go_wp2
        go_roundg (hi - (md + 1))
        case measure => omega
        case rel => exact ⟨md + 1, hi, rfl, rfl, by omega, hkh, hin, Nat.le_refl _, HB1⟩
      · have hc1 := hp2 (by omega)
        go_wp2_with (first
          | (refine plV rfl (bV x) (exec_load_any 47 _ rfl b (o + md * 4) (bR x) _ rfl hr.out Try.underlying47 rfl blk_info) ?_)
          | (go_at_call 96; refine (HC.out x _).mono ?_; rintro e w1 ⟨rfl, b1⟩; refine Hid.out ?_))
        refine Lib.hid ?_
        have HB1 := Lib.hid (below_up HB.out b1 HB.out.size)
        clear b1
        go_wp2
        go_roundg (md - lo)
        case measure => omega
        case rel => exact ⟨lo, md, rfl, rfl, hlk, by omega, by omega, Nat.le_refl _, HB1⟩
    · have e1 : lo = k := by omega
      subst e1
      by_cases hkl : lo < l.length
      · obtain ⟨x, hx⟩ : ∃ x, l[lo]? = some x := ⟨_, List.getElem?_eq_getElem hkl⟩
        obtain ⟨b, o, rfl⟩ : ∃ b o, a = some ⟨b, o, none⟩ := by
          obtain ⟨_, _, _, h4⟩ := HI.out.shape
          obtain ⟨b, o, e1, _⟩ := h4 (by omega)
          exact ⟨b, o, e1⟩
        have hr := Lib.hid (IsK.range (HI.out.below HB.out) lo x hx)
        have hit := HP.out.hit x (by rw [HK.out]; exact hx)
        have HE := Lib.hid (HHT.out.symm.trans hit)
        have hi1 : (lo : Int) < (l.length : Int) := by omega
        have hi0 : (0 : Int) ≤ (lo : Int) := by omega
        clear hit hx
        go_wp2_with (first
          | (refine plV rfl (bV x) (exec_load_any 47 _ rfl b (o + lo * 4) (bR x) _ rfl hr.out Try.underlying47 rfl blk_info) ?_)
          | (go_at_call 96; refine (HC.out x _).mono ?_; rintro e w1 ⟨rfl, b1⟩; refine Hid.out ?_))
        refine Lib.hid ?_
        have HB1 := Lib.hid (below_up HB.out b1 HB.out.size)
        clear b1
        go_wp2
        go_ret2
        exact ⟨by rw [HE.out]; rfl, HB1.out⟩
      · have HE := Lib.hid (HHT.out.symm.trans (HP.out.over (by rw [HK.out]; exact hkl)))
        have hi1 : ¬ ((lo : Int) < (l.length : Int)) := by omega
        go_wp2
        go_ret2
        exact ⟨by rw [HE.out]; rfl, HB.out⟩
set_option maxRecDepth 100000 in
set_option maxHeartbeats 2000000 in
theorem place_any (pt : Nat) (vb vr : Value) (l A Z : List Blk) (n : Int) (hP : Place n l A Z) (w : World) (hI : IsK w vb l) (hl : l.length ≤ 100000) (hO : OwnP w pt vb vr) :
    Calls Try.prog 75 #[.pointer (some ⟨pt, 6, none⟩), .int .i64 n] w fun e w' => e = .returned (.tuple #[.int .i64 (A.length : Int), .bool (atB n Z).isSome]) ∧ Below w.heap.size w w' := by
  have HS := Lib.hid (bsearch_any vb l A Z n hP w hI hl)
  obtain ⟨c0, _⟩ := hO
  obtain ⟨a, cap, rfl, hcap⟩ := hI.form
  generalize (atB n Z).isSome = hit at *
  clear hP hI
  go_enter Try.func75, Try.ntmps75
  go_wp2_with (go_at_call 95; refine HS.out.mono ?_; rintro e w1 ⟨rfl, b1⟩; refine Hid.out ?_)
  refine Lib.hid ?_
  have HB := Lib.hid b1
  clear b1
  go_wp2
  go_ret2
  exact ⟨rfl, HB.out⟩
end Go.Proofs.Ytgelbeglffjdaaa
namespace Go.Proofs.Ytgelbeglffjdaaa
open Go Go.RowKit Go.Shelf
attribute [local go_sem] Oper.semAt_some

theorem rise_a {s : Spn} {rs A M Z : List Spn} (h : Near s rs A M Z) : (∀ t, t < A.length → ∃ r, rs[t]? = some r ∧ decide (s.f - 1 ≤ r.l) = false) ∧ (∀ t, A.length ≤ t → t < rs.length → ∃ r, rs[t]? = some r ∧ ((t < A.length + M.length → decide (s.f - 1 ≤ r.l) = true ∧ decide (s.l + 1 < r.f) = false) ∧ (A.length + M.length ≤ t → decide (s.l + 1 < r.f) = true))) := by
  obtain ⟨rfl, ha, hm, hz⟩ := h
  constructor
  · intro t ht
    refine ⟨A[t], ?_, decide_eq_false (by have := ha A[t] (List.getElem_mem ht); omega)⟩
    rw [List.append_assoc, List.getElem?_append_left ht, List.getElem?_eq_getElem ht]
  · intro t h1 h2
    by_cases h3 : t < A.length + M.length
    · have h4 : t - A.length < M.length := by omega
      refine ⟨M[t - A.length], ?_, fun _ => ?_, fun h => by omega⟩
      · rw [List.append_assoc, List.getElem?_append_right h1, List.getElem?_append_left h4, List.getElem?_eq_getElem h4]
      · have := hm _ (List.getElem_mem h4)
        exact ⟨decide_eq_true this.1, decide_eq_false (by omega)⟩
    · have h4 : t - A.length - M.length < Z.length := by rw [List.length_append, List.length_append] at h2; omega
      refine ⟨Z[t - A.length - M.length], ?_, fun h => by omega, fun _ => ?_⟩
      · rw [List.append_assoc, List.getElem?_append_right h1, List.getElem?_append_right (by omega), List.getElem?_eq_getElem h4]
      · have := hz _ (List.getElem_mem h4)
        exact decide_eq_true this
theorem search_get {f : Spn → Bool} {rs : List Spn} {k : Nat} (h0 : ∀ t, t < k → ∃ r, rs[t]? = some r ∧ f r = false) (h1 : ∀ t, k ≤ t → t < rs.length → ∃ r, rs[t]? = some r ∧ f r = true) :
    (∀ t, t < k → (match rs[t]? with | some r => f r | none => true) = false) ∧ (∀ t, k ≤ t → t < rs.length → (match rs[t]? with | some r => f r | none => true) = true) :=
  ⟨fun t ht => by obtain ⟨r, hr, hf⟩ := h0 t ht; rw [hr]; exact hf, fun t h2 h3 => by obtain ⟨r, hr, hf⟩ := h1 t h2 h3; rw [hr]; exact hf⟩
set_option maxRecDepth 100000 in
set_option maxHeartbeats 400000 in
theorem near_any (pt : Nat) (vb vr : Value) (rs A M Z : List Spn) (s : Spn) (hs : mayO s) (hN : Normal rs) (hn : Near s rs A M Z) (hl : rs.length ≤ 100000) (w : World) (hI : IsS w vr rs) (hO : OwnP w pt vb vr) (hpt : pt < w.heap.size) :
    Calls Try.prog 79 #[.pointer (some ⟨pt, 6, none⟩), sV s] w fun e w' => e = .returned (.tuple #[.int .i64 (A.length : Int), .int .i64 ((A.length + M.length : Nat) : Int)]) ∧ Below w.heap.size w w' := by
  obtain ⟨hr1, hr2⟩ := rise_a hn
  have hlen : rs.length = A.length + M.length + Z.length := by rw [hn.eq, List.length_append, List.length_append]
  have hrs : ∀ r ∈ rs, mayS r := hN.may
  obtain ⟨W0, hW0⟩ : ∃ W0, W0 = (w.alloc (.cells #[.pointer (some ⟨pt, 6, none⟩)] 124)).alloc (.cells (sR s).toArray 27) := ⟨_, rfl⟩
  have hT := twoB_new w 124 27 [.pointer (some ⟨pt, 6, none⟩)] (sR s)
  have hT0 : TwoB w 124 27 [.pointer (some ⟨pt, 6, none⟩)] (sR s) W0 := hW0 ▸ hT
  obtain ⟨a, cap, rfl, hcap⟩ := IsS.form hI
  have H1 : ∀ W, Below W0.heap.size W0 W → ∀ i, i < rs.length → ∀ p1 p2, (match rs[i]? with | some r => decide (s.f - 1 ≤ r.l) | none => true) = p1 → (match rs[i]? with | some r => decide (s.l + 1 < r.f) | none => true) = p2 →
      Calls Try.prog 100 (#[.int .i64 i] ++ #[.pointer (some ⟨w.heap.size, 0, none⟩), .pointer (some ⟨w.heap.size + 1, 0, none⟩)]) W (fun e w' => e = .returned (.bool p1) ∧ Below W.heap.size W w') ∧
      Calls Try.prog 101 (#[.int .i64 i] ++ #[.pointer (some ⟨w.heap.size, 0, none⟩), .pointer (some ⟨w.heap.size + 1, 0, none⟩)]) W (fun e w' => e = .returned (.bool p2) ∧ Below W.heap.size W w') := by
    intro W hW i hi p1 p2 e1 e2
    obtain ⟨r, hr⟩ : ∃ r, rs[i]? = some r := ⟨_, List.getElem?_eq_getElem hi⟩
    rw [hr] at e1 e2
    subst e1 e2
    have hTW := hT0.up hW
    have hbW : Below w.heap.size w W := below_up hT0.2.2 hW hT0.2.2.size
    have hc := rangeAll hTW.2.1
    exact near1_any w.heap.size (w.heap.size + 1) pt _ rs s hs hrs i r hr (by omega) W (hI.below hbW) (by rw [hTW.1.cell]; rfl) (hO.up hpt hbW).2 (rng0 hc) (by have := rng1 hc; simpa using this)
  obtain ⟨f1, f2⟩ := search_get (f := fun r => decide (s.f - 1 ≤ r.l)) (k := A.length) (rs := rs) hr1 (fun t h1 h2 => by
    obtain ⟨r, hr, h3, h4⟩ := hr2 t h1 h2
    refine ⟨r, hr, ?_⟩
    by_cases h5 : t < A.length + M.length
    · exact (h3 h5).1
    · have h6 := of_decide_eq_true (h4 (by omega))
      unfold mayO at hs
      have h7 := hrs r (List.mem_of_getElem? hr)
      unfold mayS at h7
      exact decide_eq_true (by omega))
  obtain ⟨g1, g2⟩ := search_get (f := fun r => decide (s.l + 1 < r.f)) (k := A.length + M.length) (rs := rs) (fun t ht => by
    by_cases h5 : t < A.length
    · obtain ⟨r, hr, h3⟩ := hr1 t h5
      refine ⟨r, hr, ?_⟩
      have h6 := of_decide_eq_false h3
      unfold mayO at hs
      have h7 := hrs r (List.mem_of_getElem? hr)
      unfold mayS at h7
      exact decide_eq_false (by omega)
    · obtain ⟨r, hr, h3, _⟩ := hr2 t (by omega) (by omega)
      exact ⟨r, hr, (h3 ht).2⟩) (fun t h1 h2 => by
    obtain ⟨r, hr, _, h4⟩ := hr2 t (by omega) h2
    exact ⟨r, hr, h4 h1⟩)
  have HS1 := Lib.hid (fun W (hW : Below W0.heap.size W0 W) => search_any 100 #[.pointer (some ⟨w.heap.size, 0, none⟩), .pointer (some ⟨w.heap.size + 1, 0, none⟩)] rs.length A.length _ W (enters_of Try.func100 (by kernel_rfl) rfl) (by omega) (by omega) f1 f2
    (fun W' i hb hi => (H1 W' (below_up hW hb hW.size) i hi _ _ rfl rfl).1))
  have HS2 := Lib.hid (fun W (hW : Below W0.heap.size W0 W) => search_any 101 #[.pointer (some ⟨w.heap.size, 0, none⟩), .pointer (some ⟨w.heap.size + 1, 0, none⟩)] rs.length (A.length + M.length) _ W (enters_of Try.func101 (by kernel_rfl) rfl) (by omega) (by omega) g1 g2
    (fun W' i hb hi => (H1 W' (below_up hW hb hW.size) i hi _ _ rfl rfl).2))
  have c0 : W0.cell? ⟨w.heap.size, 0, none⟩ = some (.pointer (some ⟨pt, 6, none⟩)) := by rw [hT0.1.cell]; rfl
  have c1 : W0.cell? ⟨pt, 7, none⟩ = some (.slice a rs.length cap) := (hO.up hpt hT0.2.2).2
  have cw1 := hO.2
  have hB0 := Lib.hid hT0.2.2
  have hwsz := hT0.1.lt
  have hpz : pt < W0.heap.size := Nat.lt_trans hpt hwsz
  have HC := Lib.hid (⟨c0, c1⟩ : _ ∧ _)
  rw [show sV s = .agg (sR s).toArray from rfl]
  have HW0 := Lib.hid hW0
  clear hW0
  clear hr1 hr2 hrs hT hT0 hI H1 f1 f2 g1 g2 hO hn hN hs c0 c1 hlen hl
  go_enter Try.func79, Try.ntmps79
  go_wp2_with (go_at_call 99; rw [← HW0.out]; refine (HS1.out _ (Below.refl _ _)).mono ?_; rintro e w1 ⟨rfl, b1⟩; refine Hid.out ?_)
  refine Lib.hid ?_
  have d0 := (b1.cell (p := ⟨w.heap.size, 0, none⟩) hwsz).trans HC.out.1
  have d1 := (b1.cell (p := ⟨pt, 7, none⟩) hpz).trans HC.out.2
  have HB1 := Lib.hid b1
  clear b1 cw1
  go_wp2_with (go_at_call 99; refine (HS2.out _ HB1.out).mono ?_; rintro e w2 ⟨rfl, b2⟩; refine Hid.out ?_)
  refine Lib.hid ?_
  have HB2 := Lib.hid (below_up (below_up hB0.out HB1.out hB0.out.size) b2 (Nat.le_trans hB0.out.size HB1.out.size))
  clear b2 d0 d1
  go_wp2
  go_ret2
  exact ⟨rfl, HB2.out⟩
end Go.Proofs.Ytgelbeglffjdaaa

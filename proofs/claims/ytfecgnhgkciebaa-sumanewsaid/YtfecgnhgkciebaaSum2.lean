/- Package sum: sized, Pseudo. Proved: what each returns, for every argument of its type (addresses of at most a thousand bytes). -/
import Derived.Test.YtfecgnhgkciebaaCat1
import Derived.Test.YtfecgnhgkciebaaOct4
import Derived.Test.YtfecgnhgkciebaaAwake
namespace Go.Proofs.Ytfecgnhgkciebaa
open Go Go.RowKit

/-- A row of rows that was just built. -/
theorem isRows_built (W : World) (vs : List Value) (ls : List (List UInt8)) (cs : Array Value) (hcs : cs = vs.toArray) (n : Nat) (hn : n = ls.length) (hl : vs.length = ls.length) (hm : ls.length ≤ 1000)
    (h : ∀ i (h1 : i < vs.length) (h2 : i < ls.length), IsB W vs[i] ls[i]) : IsRows (W.alloc (.cells cs 22)) (.slice (some ⟨W.heap.size, 0, none⟩) n n) ls := by
  subst hcs hn
  refine ⟨_, _, rfl, Nat.le_refl _, by unfold maxLen; omega, fun _ => ⟨W.heap.size, 0, rfl, by simp, fun i hi => ?_⟩⟩
  have hb := h i (by omega) hi
  obtain ⟨a, cap, he, _⟩ := id hb
  refine ⟨a, cap, ?_, ?_⟩
  · rw [cell_of_row _ W.heap.size (0 + i) _ _ _ (heap_alloc_new W _)]
    simp [show i < vs.length by omega, he]
  · rw [← he]
    exact hb.below ((Below.refl _ _).alloc (Nat.le_refl _) _)
theorem rows_one (W : World) (g : Nat) (hg : g = W.heap.size) (v1 : Value) (l1 : List UInt8) (h1 : IsB W v1 l1) : IsRows (W.alloc (.cells #[v1] 22)) (.slice (some ⟨g, 0, none⟩) 1 1) [l1] :=
  hg ▸ isRows_built W [v1] [l1] _ rfl 1 rfl rfl (by simp) fun i hi _ => by
    match i, hi with
    | 0, _ => exact h1
theorem rows_two (W : World) (g : Nat) (hg : g = W.heap.size) (v1 v2 : Value) (l1 l2 : List UInt8) (h1 : IsB W v1 l1) (h2 : IsB W v2 l2) : IsRows (W.alloc (.cells #[v1, v2] 22)) (.slice (some ⟨g, 0, none⟩) 2 2) [l1, l2] :=
  hg ▸ isRows_built W [v1, v2] [l1, l2] _ rfl 2 rfl rfl (by simp) fun i hi _ => by
    match i, hi with
    | 0, _ => exact h1
    | 1, _ => exact h2
theorem rows_three (W : World) (g : Nat) (hg : g = W.heap.size) (v1 v2 v3 : Value) (l1 l2 l3 : List UInt8) (h1 : IsB W v1 l1) (h2 : IsB W v2 l2) (h3 : IsB W v3 l3) : IsRows (W.alloc (.cells #[v1, v2, v3] 22)) (.slice (some ⟨g, 0, none⟩) 3 3) [l1, l2, l3] :=
  hg ▸ isRows_built W [v1, v2, v3] [l1, l2, l3] _ rfl 3 rfl rfl (by simp) fun i hi _ => by
    match i, hi with
    | 0, _ => exact h1
    | 1, _ => exact h2
    | 2, _ => exact h3

def sizedL (t s z : Int) (l : List UInt8) : List UInt8 := if z < 0 then [] else putL l t s z.toNat

set_option maxHeartbeats 400000 in
theorem sized_any (t s z : Int) (v : Value) (ls : List (List UInt8)) (w : World) (hr : IsRows w v ls) (hlim : ls.flatten.length ≤ 1000000) (hz : z ≤ 9223372036854775807) :
    Calls Try.prog 23 #[.int .i64 t, .int .i64 s, .int .i64 z, v] w fun e w' => (∃ a n cap, e = .returned (.slice a n cap) ∧ IsB w' (.slice a n cap) (sizedL t s z ls.flatten)) ∧ Below w.heap.size w w' := by
  unfold sizedL
  by_cases h0 : z < 0
  · rw [if_pos h0]
    clear hr hlim
    go_enter Try.func23, Try.ntmps23
    go_wp2
    go_ret
    exact ⟨⟨_, _, _, rfl, IsB.nil _⟩, Below.refl _ _⟩
  · rw [if_neg h0]
    obtain ⟨z, rfl⟩ := Int.eq_ofNat_of_zero_le (show 0 ≤ z by omega)
    rw [Int.toNat_natCast]
    have HC := Lib.hid (concat_any v ls w hr hlim)
    clear hr
    generalize ls.flatten = l at *
    have HP := Lib.hid (fun a n cap W h => put_any a n cap l t s z W h hlim (by omega))
    have HL := Lib.hid hlim
    clear hlim
    go_enter Try.func23, Try.ntmps23
    go_wp2_with (go_at_call 27; refine HC.out.mono ?_; rintro e w1 ⟨⟨a1, n1, c1, rfl, hi1⟩, hb1⟩; refine Hid.out ?_)
    refine Lib.hid ?_
    go_wp2_with (go_at_call 26; refine (HP.out _ _ _ _ hi1).mono ?_; rintro e w2 ⟨⟨a2, n2, c2, rfl, hi2⟩, hb2⟩)
    go_ret
    exact ⟨⟨_, _, _, rfl, hi2⟩, below_up hb1 hb2 hb1.size⟩

/-- What stands ahead of a message. -/
def pseudoL (s d : List UInt8) (p : UInt8) (z : Int) : List UInt8 :=
  if s.length = 4 ∧ d.length = 4 then sizedL 10 2 z (s ++ (d ++ [0, p, 0, 0]))
  else if s.length = 16 ∧ d.length = 16 then sizedL 32 4 z (s ++ (d ++ [0, 0, 0, 0, 0, 0, 0, p])) else []

set_option maxHeartbeats 1000000 in
theorem pseudo_any (a1 : Option Addr) (n1 c1 : Nat) (a2 : Option Addr) (n2 c2 : Nat) (s d : List UInt8) (q : Int) (p : UInt8) (z : Int) (w : World) (hq : q = (p.toNat : Int)) (h1 : IsB w (.slice a1 n1 c1) s) (h2 : IsB w (.slice a2 n2 c2) d)
    (hs : s.length ≤ 1000) (_hd : d.length ≤ 1000) (hz : z ≤ 9223372036854775807) :
    Calls Try.prog 16 #[.slice a1 n1 c1, .slice a2 n2 c2, .int .u8 q, .int .i64 z] w fun e w' => (∃ a n cap, e = .returned (.slice a n cap) ∧ IsB w' (.slice a n cap) (pseudoL s d p z)) ∧ Below w.heap.size w w' := by
  obtain ⟨rfl, -⟩ := h1.cells
  obtain ⟨rfl, -⟩ := h2.cells
  have H1 := Lib.hid h1
  have H2 := Lib.hid h2
  have hq0 : 0 ≤ q := by omega
  have hq1 : q ≤ 255 := by have := UInt8.toNat_lt p; omega
  unfold pseudoL
  by_cases hc : s.length = 4 ∧ d.length = 4
  · rw [if_pos hc]
    obtain ⟨e1, e2⟩ := hc
    rw [e1] at H1 ⊢
    rw [e2] at H2 ⊢
    have hb := isB_built w [0, p, 0, 0] #[.int .u8 0, .int .u8 q, .int .u8 0, .int .u8 0] (by rw [hq]; rfl) (by simp)
    have bel : Below w.heap.size w (w.alloc (.cells #[.int .u8 0, .int .u8 q, .int .u8 0, .int .u8 0] 5)) := (Below.refl _ _).alloc (Nat.le_refl _) _
    have hrows := rows_three (w.alloc (.cells #[.int .u8 0, .int .u8 q, .int .u8 0, .int .u8 0] 5)) (w.heap.size + 1) (by simp) _ _ _ _ _ _ (H1.out.below bel) (H2.out.below bel) hb
    have HS := Lib.hid (sized_any 10 2 z _ _ _ hrows (by simp; omega) hz)
    have HB := Lib.hid (bel.alloc bel.size (.cells #[.slice a1 4 c1, .slice a2 4 c2, .slice (some ⟨w.heap.size, 0, none⟩) 4 4] 22))
    rw [show ([s, d, [0, p, 0, 0]] : List (List UInt8)).flatten = s ++ (d ++ [0, p, 0, 0]) by simp] at HS
    clear h1 h2 hb bel hrows H1 H2 e1 e2 hq
    generalize sizedL 10 2 z (s ++ (d ++ [0, p, 0, 0])) = L at *
    go_enter Try.func16, Try.ntmps16
    go_wp2_with (go_at_call 23; refine HS.out.mono ?_; rintro e w2 ⟨⟨a3, n3, c3, rfl, hi3⟩, hb3⟩)
    go_ret
    exact ⟨⟨_, _, _, rfl, hi3⟩, below_up HB.out hb3 HB.out.size⟩
  · rw [if_neg hc]
    by_cases hc2 : s.length = 16 ∧ d.length = 16
    · rw [if_pos hc2]
      obtain ⟨e1, e2⟩ := hc2
      rw [e1] at H1 ⊢
      rw [e2] at H2 ⊢
      have hb := isB_built w [0, 0, 0, 0, 0, 0, 0, p] #[.int .u8 0, .int .u8 0, .int .u8 0, .int .u8 0, .int .u8 0, .int .u8 0, .int .u8 0, .int .u8 q] (by rw [hq]; rfl) (by simp)
      have bel : Below w.heap.size w (w.alloc (.cells #[.int .u8 0, .int .u8 0, .int .u8 0, .int .u8 0, .int .u8 0, .int .u8 0, .int .u8 0, .int .u8 q] 5)) := (Below.refl _ _).alloc (Nat.le_refl _) _
      have hrows := rows_three (w.alloc (.cells #[.int .u8 0, .int .u8 0, .int .u8 0, .int .u8 0, .int .u8 0, .int .u8 0, .int .u8 0, .int .u8 q] 5)) (w.heap.size + 1) (by simp) _ _ _ _ _ _ (H1.out.below bel) (H2.out.below bel) hb
      have HS := Lib.hid (sized_any 32 4 z _ _ _ hrows (by simp; omega) hz)
      have HB := Lib.hid (bel.alloc bel.size (.cells #[.slice a1 16 c1, .slice a2 16 c2, .slice (some ⟨w.heap.size, 0, none⟩) 8 8] 22))
      rw [show ([s, d, [0, 0, 0, 0, 0, 0, 0, p]] : List (List UInt8)).flatten = s ++ (d ++ [0, 0, 0, 0, 0, 0, 0, p]) by simp] at HS
      clear h1 h2 hb bel hrows H1 H2 e1 e2 hq
      generalize sizedL 32 4 z (s ++ (d ++ [0, 0, 0, 0, 0, 0, 0, p])) = L at *
      go_enter Try.func16, Try.ntmps16
      go_wp2_with (go_at_call 23; refine HS.out.mono ?_; rintro e w2 ⟨⟨a3, n3, c3, rfl, hi3⟩, hb3⟩)
      go_ret
      exact ⟨⟨_, _, _, rfl, hi3⟩, below_up HB.out hb3 HB.out.size⟩
    · rw [if_neg hc2]
      have hcase : (s.length = 4 ∧ d.length ≠ 4) ∨ (s.length = 16 ∧ d.length ≠ 16) ∨ (s.length ≠ 4 ∧ s.length ≠ 16) := by omega
      clear h1 h2 H1 H2 hc hc2 hq
      generalize s.length = x at *
      generalize d.length = y at *
      rcases hcase with ⟨rfl, hy⟩ | ⟨rfl, hy⟩ | ⟨hx, hx2⟩
      · have hy2 : ((y : Int) == 4) = false := by simp; omega
        clear hy
        go_enter Try.func16, Try.ntmps16
        go_wp2
        go_ret
        exact ⟨⟨_, _, _, rfl, IsB.nil _⟩, Below.refl _ _⟩
      · have hy2 : ((y : Int) == 16) = false := by simp; omega
        clear hy
        go_enter Try.func16, Try.ntmps16
        go_wp2
        go_ret
        exact ⟨⟨_, _, _, rfl, IsB.nil _⟩, Below.refl _ _⟩
      · have hy1 : ((x : Int) == 4) = false := by simp; omega
        have hy2 : ((x : Int) == 16) = false := by simp; omega
        clear hx hx2
        go_enter Try.func16, Try.ntmps16
        go_wp2
        go_ret
        exact ⟨⟨_, _, _, rfl, IsB.nil _⟩, Below.refl _ _⟩
end Go.Proofs.Ytfecgnhgkciebaa

/- Ip4Turned: the walk. -/
import Derived.Test.YtchkbdgoghcgcaaAw4
import Derived.Test.YtchkbdgoghcgcaaIpQ
namespace Go.Proofs.Ytchkbdgoghcgcaa
open Go Go.RowKit

theorem xor_byte (X : List UInt8) (i j : Nat) (hj : j < 8) : ∃ y : UInt8, y.toNat = (X.getD i 0).toNat ^^^ 2 ^ j ∧ bits .xor .u8 (byteAt X i) (2 ^ j % 256) = (y.toNat : Int) := by
  have hx := (xor_bit ⟨_, UInt8.toNat_lt (X.getD i 0)⟩ ⟨j, hj⟩).2
  simp only at hx
  refine ⟨UInt8.ofNat ((X.getD i 0).toNat ^^^ 2 ^ j), UInt8.toNat_ofNat_of_lt' hx, ?_⟩
  have e2 : ((2 : Int) ^ j % 256) = ((2 ^ j : Nat) : Int) := by
    have : j = 0 ∨ j = 1 ∨ j = 2 ∨ j = 3 ∨ j = 4 ∨ j = 5 ∨ j = 6 ∨ j = 7 := by omega
    rcases this with rfl | rfl | rfl | rfl | rfl | rfl | rfl | rfl <;> rfl
  have h2 : 2 ^ j < 256 := by
    have : j = 0 ∨ j = 1 ∨ j = 2 ∨ j = 3 ∨ j = 4 ∨ j = 5 ∨ j = 6 ∨ j = 7 := by omega
    rcases this with rfl | rfl | rfl | rfl | rfl | rfl | rfl | rfl <;> decide
  have hb := UInt8.toNat_lt (X.getD i 0)
  rw [e2, UInt8.toNat_ofNat_of_lt' hx]
  show bits .xor .u8 (((X.getD i 0).toNat : Nat) : Int) ((2 ^ j : Nat) : Int) = _
  rw [u8_xor _ _ (by omega) (by omega) (by omega) (by omega), Int.toNat_natCast, Int.toNat_natCast]

set_option maxRecDepth 100000 in
set_option maxHeartbeats 4000000 in
theorem turned4_walk (h : Hdr) (a : Option Addr) (n cap : Nat) (l : List UInt8) (q : Int) (w : World) (hid : h.id ≤ 65535) (hv : IsB w (.slice a n cap) l) (q0 : 0 ≤ q) (q1 : q ≤ 255) :
    Calls Try.prog 7 #[h.val, .slice a n cap, .int .u8 q] w fun e w' => e = .returned (.bool true) ∧ Below w.heap.size w w' := by
  obtain ⟨rfl, z1, m1, -⟩ := hv.cells
  have b0 : Below w.heap.size w (w.alloc (.cells h.cells 27)) := (Below.refl _ _).alloc (Nat.le_refl _) _
  have hg0 := heap_alloc_new w (.cells h.cells 27)
  have HA := Lib.hid (awake4_any (w.alloc (.cells h.cells 27)))
  have HC : Hid (∀ W, Below (w.alloc (.cells h.cells 27)).heap.size (w.alloc (.cells h.cells 27)) W → W.heap[w.heap.size]? = some (.cells h.cells 27 (0, 0)) ∧ IsB W (.slice a l.length cap) l ∧ Below w.heap.size w W) := by
    intro W hb
    exact ⟨(hb.block w.heap.size (by simp)).trans hg0, (hv.below b0).below hb, below_up b0 hb b0.size⟩
  rw [show h.val = .agg h.cells from rfl]
  unfold maxLen at m1
  clear hv b0 hg0
  by_cases hbig : 1000 < l.length
  · go_enter Try.func7, Try.ntmps7
    go_wp2_with (go_at_call 9; refine HA.out.mono ?_; rintro e w1 ⟨rfl, b1⟩)
    go_ret
    exact ⟨rfl, (HC.out _ b1).2.2⟩
  have hl : l.length ≤ 1000 := by omega
  clear hbig
  rcases putC4_cases h l.length with ⟨hC, f, hn⟩ | ⟨hC, hP⟩
  · have HP := Lib.hid (fun W (i : IsB W (.slice a l.length cap) l) => put4_own h a l.length cap l W f hid i (by omega) hn)
    have lx : (pktL h l).length = h.size + l.length := pktL_length _ _
    have hs := size_le f
    have h20 : 20 ≤ h.size := by unfold Hdr.size; omega
    have HS := Lib.hid (fun W => size_any h W (by have := f.o1; omega))
    obtain ⟨bq, rfl⟩ := Int.eq_ofNat_of_zero_le q0
    obtain ⟨k, hk⟩ : ∃ k, k = bq % (8 * h.size) := ⟨_, rfl⟩
    have hkl : k < 8 * h.size := by rw [hk]; exact Nat.mod_lt _ (by omega)
    have HT := Lib.hid (fun i j hi hj y hy => ip4_turned f hid l hn i j hi hj y hy)
    have HX := Lib.hid (fun x (hx : x = pktL h l) => hx ▸ HT.out)
    generalize hZ : h.size = Z at *
    have hk2 : (bq : Int) % (8 * (Z : Int)) = (k : Int) := by
      rw [hk, show 8 * (Z : Int) = ((8 * Z : Nat) : Int) by omega]
      exact (Int.natCast_emod _ _).symm
    rw [lx] at HP
    clear hC f
    have HK := Lib.hid hk
    have HLX := Lib.hid lx
    clear hk lx HX
    generalize pktL h l = X at *
    go_enter Try.func7, Try.ntmps7
    go_wp2_with (go_at_call 9; refine HA.out.mono ?_; rintro e w1 ⟨rfl, b1⟩; refine Hid.out ?_)
    refine Lib.hid ?_
    obtain ⟨hg1, i1, -⟩ := HC.out _ b1
    have HG1 := Lib.hid hg1
    have B1 := Lib.hid b1
    have I1 := Lib.hid i1
    clear b1 hg1 i1
    go_wp2_with (first | (refine wpList_load_hdr rfl (.tmp 3) rfl w.heap.size h rfl HG1.out ?_) | (go_at_call 14; refine (HP.out _ I1.out).mono ?_; rintro e w2 ⟨⟨v2, rfl, o2⟩, b2⟩; refine Hid.out ?_))
    refine Lib.hid ?_
    obtain ⟨g2, c2, rfl, hgl, hgs⟩ := own_form o2 (by omega)
    have B2 := Lib.hid (below_up B1.out b2 B1.out.size)
    obtain ⟨hg2, -, e2⟩ := HC.out _ B2.out
    have HG2 := Lib.hid hg2
    have O2 := Lib.hid o2
    clear b2 hg2 o2 I1
    go_wp2_with (first | (refine wpList_load_hdr rfl (.tmp 3) rfl w.heap.size h rfl HG2.out ?_) | (go_at_call 16; refine (HS.out _).mono ?_; rintro e w3 ⟨rfl, b3⟩; refine Hid.out ?_))
    refine Lib.hid ?_
    have O3 := Lib.hid (own_below O2.out b3)
    have E3 := Lib.hid (below_up e2 b3 e2.size)
    clear b3 e2
    have z8 : ¬ 8 * (Z : Int) = 0 := by omega
    by_cases hk4 : k < 4
    · go_wp2
      go_ret
      exact ⟨rfl, E3.out⟩
    · have hk4' : ¬ (k : Int) < 4 := by omega
      have hi : k / 8 < Z := by omega
      have hc := own_cell O3.out (k / 8) (by rw [HLX.out]; omega)
      have hf := O3.out.frozenAt (k / 8)
      have x0 := byteAt_nonneg X (k / 8)
      have x1 := byteAt_le X (k / 8)
      have hj : k % 8 < 8 := by omega
      obtain ⟨y, hy, hE⟩ := xor_byte X (k / 8) (k % 8) hj
      have T3 := HT.out (k / 8) (k % 8) hi hj y hy
      have o4 := own_set O3.out (k / 8) _ y hE
      have e4 := E3.out.setCell (p := ⟨g2, k / 8, none⟩) (by have := (HC.out _ B1.out).2.2.size; show w.heap.size ≤ g2; omega) (.int .u8 (bits .xor .u8 (byteAt X (k / 8)) (2 ^ (k % 8) % 256)))
      have HPr := Lib.hid (parse_any _ _ _ _ _ (IsB.of_owned o4) (by rw [List.length_set, HLX.out]; omega))
      have E4 := Lib.hid e4
      generalize ip4C (X.set (k / 8) y) = C2 at *
      generalize ip4H (X.set (k / 8) y) = H2 at *
      have hcase : C2 = 14 ∨ (C2 = 12 ∧ (k : Int) / 8 = 0) ∨ (C2 = 13 ∧ (k : Int) / 8 = 2) ∨ (C2 = 13 ∧ (k : Int) / 8 = 3) := by
        by_cases i0 : k / 8 = 0
        · exact .inr (.inl ⟨T3.1 i0 (by omega), by omega⟩)
        · by_cases i2 : k / 8 = 2
          · rcases T3.2.2 (.inl i2) with h | h
            · exact .inr (.inr (.inl ⟨h, by omega⟩))
            · exact .inl h
          · by_cases i3 : k / 8 = 3
            · rcases T3.2.2 (.inr i3) with h | h
              · exact .inr (.inr (.inr ⟨h, by omega⟩))
              · exact .inl h
            · exact .inl (T3.2.1 (by omega) i2 i3)
      clear T3 o4 e4 hE hy HT O3 O2 E3 HK HLX
      have hcase2 : (C2 = 14 ∧ Hid True) ∨ (C2 = 12 ∧ Hid ((k : Int) / 8 = 0)) ∨ (C2 = 13 ∧ Hid ((k : Int) / 8 = 2)) ∨ (C2 = 13 ∧ Hid ((k : Int) / 8 = 3)) := by
        rcases hcase with h | h | h | h
        · exact .inl ⟨h, trivial⟩
        · exact .inr (.inl h)
        · exact .inr (.inr (.inl h))
        · exact .inr (.inr (.inr h))
      clear hcase
      rcases hcase2 with ⟨rfl, HI⟩ | ⟨rfl, HI⟩ | ⟨rfl, HI⟩ | ⟨rfl, HI⟩
      all_goals
        go_wp2_with (go_at_call 10; refine HPr.out.mono ?_; rintro e w5 ⟨rfl, b5⟩; refine Hid.out ?_)
        refine Lib.hid ?_
        have E5 := Lib.hid ((below_up E4.out b5 E4.out.size).alloc (Nat.le_trans E4.out.size b5.size) (.cells H2.cells 27))
        have hI := HI.out
        clear b5 hc hf
        go_wp2_with (refine wpList_store_new rfl (.tmp 11) (.tmp 52) rfl H2 _ rfl rfl rfl ?_)
        go_ret
        exact ⟨rfl, E5.out⟩
  · have hp := hP l rfl
    have HP0 := Lib.hid (fun W (i : IsB W (.slice a l.length cap) l) => put4_any h a l.length cap l W hid i (by omega))
    rw [hp] at HP0
    clear hP hp
    generalize putC4 h l.length = C at *
    go_enter Try.func7, Try.ntmps7
    go_wp2_with (go_at_call 9; refine HA.out.mono ?_; rintro e w1 ⟨rfl, b1⟩; refine Hid.out ?_)
    refine Lib.hid ?_
    obtain ⟨hg1, i1, -⟩ := HC.out _ b1
    have HG1 := Lib.hid hg1
    have B1 := Lib.hid b1
    have I1 := Lib.hid i1
    clear b1 hg1 i1
    go_wp2_with (first | (refine wpList_load_hdr rfl (.tmp 3) rfl w.heap.size h rfl HG1.out ?_) | (go_at_call 14; refine (HP0.out _ I1.out).mono ?_; rintro e w2 ⟨⟨a2, n2, c2, rfl, i2⟩, b2⟩; refine Hid.out ?_))
    refine Lib.hid ?_
    obtain ⟨hq, -⟩ := i2.cells
    have hq2 : n2 = 0 := hq
    subst hq2
    have B2 := Lib.hid (HC.out _ (below_up B1.out b2 B1.out.size)).2.2
    clear b2 i2 hq
    go_wp2
    go_ret
    exact ⟨rfl, B2.out⟩
end Go.Proofs.Ytchkbdgoghcgcaa

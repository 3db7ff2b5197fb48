/- Put of package entry. Proved: what it returns, for every stack. -/
import Derived.Test.YtljpndkgfjndbaaEntB
import Derived.Test.YtljpndkgfjndbaaEntP
import Derived.Test.YtljpndkgfjndbaaCat1
namespace Go.Proofs.Ytljpndkgfjndbaa
open Go Go.RowKit

set_option maxHeartbeats 1000000 in
theorem eput_own (a : Option Addr) (n cap : Nat) (l : List Ent) (w : World) (hl : IsE w (.slice a n cap) l) :
    Calls Try.prog 16 #[.slice a n cap] w fun x w' => (∃ a' n' c', x = .returned (.tuple #[.slice a' n' c', .int .i64 (putC l)]) ∧ w'.ownsRow w.heap.size 5 1 (.slice a' n' c') n' (byteVals (putR l))) ∧ Below w.heap.size w w' := by
  obtain ⟨rfl, l1, l2, lok, lc⟩ := hl.cells
  unfold maxLen at l2
  by_cases h16 : 16 < l.length
  · rw [(putC_many h16).1, (putC_many h16).2]
    clear lc hl lok
    go_enter Try.func16, Try.ntmps16
    go_wp2
    go_ret2
    exact ⟨⟨_, _, _, rfl, World.ownsRow_nil _ _ _ _⟩, Below.refl _ _⟩
  have HL := Lib.hid lc
  have HOK := Lib.hid lok
  have H16 := Lib.hid h16
  have HP := Lib.hid pack_any
  obtain ⟨i0, hi, hz0, hz1, hz2⟩ := info_parts info5
  clear lc hl lok
  obtain ⟨N, hN⟩ : ∃ N, l.length = N := ⟨_, rfl⟩
  rw [hN] at HL l1 h16 ⊢
  have HN := Lib.hid hN
  clear hN
  go_enter Try.func16, Try.ntmps16
  go_wp2
  go_loopw [14, 4] (fun i v wr => ∃ k : Nat, k ≤ N ∧ i = .int .i64 k ∧ wr.ownsRow w.heap.size 5 1 v (4 * k) (byteVals (putK l k)) ∧ (l.take k).all Ent.good = true ∧ Below w.heap.size w wr) (fun i _ _ => N - (intOf i).toNat)
  case atStart => exact ⟨0, Nat.zero_le _, rfl, by rw [putK_zero]; exact World.ownsRow_nil _ _ _ _, by simp, Below.refl _ _⟩
  case round =>
    obtain ⟨k, hk, rfl, hown, hall, hb⟩ := hrel
    by_cases hlt : k < N
    · obtain ⟨x, hx⟩ : ∃ x, l[k]? = some x := ⟨l[k]'(by rw [HN.out]; exact hlt), by simp [HN.out, hlt]⟩
      obtain ⟨bl, ol, rfl, hbl, hcl⟩ := HL.out (by omega)
      obtain ⟨x0, x1, x2, x3⟩ := hcl k x hx
      have hx0 := (hb.cell (p := ⟨bl, ol + k * 4, none⟩) hbl).trans x0
      have hx1 := (hb.cell (p := ⟨bl, ol + k * 4 + 1, none⟩) hbl).trans x1
      have hx2 := (hb.cell (p := ⟨bl, ol + k * 4 + 2, none⟩) hbl).trans x2
      have hx3 := (hb.cell (p := ⟨bl, ol + k * 4 + 3, none⟩) hbl).trans x3
      clear hcl x0 x1 x2 x3
      have HO := Lib.hid hown
      have hxok := HOK.out x (List.mem_of_getElem? hx)
      have HXO := Lib.hid hxok
      have HX := Lib.hid hx
      have HALL := Lib.hid hall
      clear hown hx hall hxok
      obtain ⟨L, C, B, T⟩ := x
      have hbit : ((k : Int) == (N : Int) - 1) = decide (k + 1 = l.length) := by
        rw [Bool.eq_iff_iff, beq_iff_eq, decide_eq_true_iff, HN.out]; omega
      have hset : (Ent.mk L C B T).setB (decide (k + 1 = l.length)) = ⟨L, C, ((k : Int) == (N : Int) - 1), T⟩ := by rw [hbit]; rfl
      have HSET := Lib.hid hset
      have HC := Lib.hid (fun W => HP.out ⟨L, C, ((k : Int) == (N : Int) - 1), T⟩ W (by rw [← hset]; exact setB_ok HXO.out _))
      have hgood : (Ent.mk L C ((k : Int) == (N : Int) - 1) T).good = (Ent.mk L C B T).good := rfl
      cases hg : (Ent.mk L C B T).good
      · have hc : packC ⟨L, C, ((k : Int) == (N : Int) - 1), T⟩ = 1 := by unfold packC; rw [hgood, hg]; rfl
        rw [hc] at HC
        have HG := Lib.hid hg
        clear hbit hset hgood hg hc
        go_wp2_with (go_at_call 9; refine (HC.out _).mono ?_; rintro e w2 ⟨⟨a', n', c', rfl, hB2⟩, hb2⟩)
        go_ret2
        rw [(putC_bad H16.out (all_bad l k _ HX.out HG.out)).1, (putC_bad H16.out (all_bad l k _ HX.out HG.out)).2]
        exact ⟨⟨_, _, _, rfl, World.ownsRow_nil _ _ _ _⟩, below_up (hb.alloc hb.size _) hb2 (by have := hb.size; simp; omega)⟩
      · have hc : packC ⟨L, C, ((k : Int) == (N : Int) - 1), T⟩ = 0 := by unfold packC; rw [hgood, hg]; rfl
        have hc2 : packB ⟨L, C, ((k : Int) == (N : Int) - 1), T⟩ = ((Ent.mk L C B T).setB (decide (k + 1 = l.length))).bytes := by unfold packB; rw [hgood, hg, hset]; rfl
        rw [hc, hc2] at HC
        have HG := Lib.hid hg
        clear hbit hset hgood hg hc hc2
        go_wp2_with (go_at_call 9; refine (HC.out _).mono ?_; rintro e w2 ⟨⟨a', n', c', rfl, hB2⟩, hb2⟩; refine Hid.out ?_)
        refine Lib.hid ?_
        have hb3 : Below w.heap.size w w2 := below_up (hb.alloc hb.size _) hb2 (by have := hb.size; simp; omega)
        have ho3 := own_below (HO.out.alloc _) hb2
        obtain ⟨rfl, -, -, hcs⟩ := hB2.cells
        rw [bytes_length] at hcs ⊢
        obtain ⟨ad, rfl, hadl, hadc⟩ := hcs (by omega)
        have HAD := Lib.hid hadc
        have HO3 := Lib.hid ho3
        have HZ := Lib.hid hb3.size
        have HB3 := Lib.hid hb3
        have hlen4 := bytes_length ((Ent.mk L C B T).setB (decide (k + 1 = l.length)))
        have HL4 := Lib.hid hlen4
        clear hadc ho3 hb3 hB2 hb2 HC hcs hlen4
        go_wp2_with (at_builtin; refine wpList_append_own _ rfl (.tmp 33) (.tmp 34) 24 rfl w.heap.size 5 i0 (.int .u8 0) 1 1 Try.underlying24 hi hz0 hz1 hz2 rfl (by decide) _ _ _ rfl HO3.out ad _ _ (byteVals ((Ent.mk L C B T).setB (decide (k + 1 = l.length))).bytes) rfl (by rw [byteVals_length, HL4.out]) HAD.out (byteVals_oneCell _) (by unfold maxLen; omega) (by omega) HZ.out ?_; intro v' w3 hown' hgrow _)
        go_roundw
        case rel =>
          refine ⟨k + 1, by omega, by go_num, ?_, ?_, HB3.out.grown hgrow HZ.out (owned_low HO3.out)⟩
          · rw [putK_succ l k _ HX.out, byteVals_append]; exact hown'
          · rw [allGood_take l k _ HX.out, HALL.out, HG.out]; rfl
        case measure => simp [intOf]; omega
    · have hkN : k = N := by omega
      subst hkN
      rw [← HN.out, List.take_length] at hall
      have hpc := putC_good H16.out hall
      rw [← HN.out, putK_all, ← hpc.2] at hown
      obtain ⟨a3, n3, c3, rfl, hi3⟩ := owned_shape hown
      have hn3 : 4 * l.length = n3 := by
        have h1 := hown.1
        rw [byteVals_length, ← hi3.cells.1] at h1
        omega
      rw [hn3] at hown
      have HI3 := Lib.hid hown
      have HPC := Lib.hid hpc.1
      clear hi3 hown hall hpc hn3
      go_wp2
      go_ret2
      exact ⟨⟨a3, n3, c3, by rw [HPC.out]; rfl, HI3.out⟩, hb⟩

theorem eput_any (a : Option Addr) (n cap : Nat) (l : List Ent) (w : World) (hl : IsE w (.slice a n cap) l) :
    Calls Try.prog 16 #[.slice a n cap] w fun x w' => (∃ a' n' c', x = .returned (.tuple #[.slice a' n' c', .int .i64 (putC l)]) ∧ IsB w' (.slice a' n' c') (putR l)) ∧ Below w.heap.size w w' := by
  refine (eput_own a n cap l w hl).mono ?_
  rintro x w' ⟨⟨a', n', c', rfl, ho⟩, hb⟩
  obtain ⟨a2, n2, c2, he, hi⟩ := owned_shape ho
  cases he
  exact ⟨⟨_, _, _, rfl, hi⟩, hb⟩
end Go.Proofs.Ytljpndkgfjndbaa

/- The document's table of stage 9: where a prefix stands in a row; whether one may be of a table. The document's table of stage 9: New, right, Get. The document's table of stage 9: Put and Delete. -/
import Derived.Test.YtgimcapcnidjjaaAw9
import Derived.Test.YtgimcapcnidjjaaRpA
namespace Go.Proofs.Ytgimcapcnidjjaa
open Go Go.RowKit

theorem find_at {p : Pfx} : ∀ (L : List (Pfx × Int)) (j : Nat) (x : Pfx × Int), (∀ i y, i < j → L[i]? = some y → cmpP y.1 p < 0) → L[j]? = some x → ¬ cmpP x.1 p < 0 → idxT cmpP p L = j ∧ isT cmpP p L = decide (cmpP x.1 p = 0)
  | [], j, x, _, h, _ => by simp at h
  | y :: L, 0, x, _, h, hx => by
    cases h
    unfold idxT isT
    rw [if_neg hx, if_neg hx]
    exact ⟨rfl, rfl⟩
  | y :: L, j + 1, x, hl, h, hx => by
    obtain ⟨e1, e2⟩ := find_at L j x (fun i z hi hz => hl (i + 1) z (by omega) hz) h hx
    have h0 := hl 0 y (by omega) rfl
    unfold idxT isT
    rw [if_pos h0, if_pos h0, e1, e2]
    exact ⟨by omega, rfl⟩
theorem find_end {p : Pfx} : ∀ (L : List (Pfx × Int)), (∀ i y, i < L.length → L[i]? = some y → cmpP y.1 p < 0) → idxT cmpP p L = L.length ∧ isT cmpP p L = false
  | [], _ => ⟨rfl, rfl⟩
  | y :: L, hl => by
    obtain ⟨e1, e2⟩ := find_end L (fun i z hi hz => hl (i + 1) z (by simpa using hi) hz)
    have h0 := hl 0 y (by simp) rfl
    unfold idxT isT
    rw [if_pos h0, if_pos h0, e1, e2]
    exact ⟨by simp, rfl⟩
def HeldF (b0 : Nat) (l : List Value) (b k : Nat) (m : List Value) (W : World) : Prop := Bx W b0 25 l ∧ W.rangeAt b k m
/-- What find keeps. -/
def FindZ (w : World) (p : Pfx) (v : Value) (L : List (Pfx × Int)) (W : World) : Prop := Bx W w.heap.size 25 p.row ∧ IsC itF 19 W v L ∧ Below w.heap.size w W
theorem FindZ.up {w : World} {p : Pfx} {v : Value} {L : List (Pfx × Int)} {W W' : World} (h : FindZ w p v L W) (hb : Below W.heap.size W W') : FindZ w p v L W' := ⟨h.1.up hb, h.2.1.below hb, below_up h.2.2 hb h.2.2.size⟩
theorem isC_drew {v : Value} {L : List (Pfx × Int)} {W : World} (h : IsC itF 19 W v L) : IsC itF 19 W.drew v L := h.below (Below.refl _ _).drew
theorem isC_at {W : World} {a : Option Addr} {n cap : Nat} {L : List (Pfx × Int)} (h : IsC itF 19 W (.slice a n cap) L) (j : Nat) (x : Pfx × Int) (hx : L[j]? = some x) : ∃ b k, a = some ⟨b, k, none⟩ ∧ b < W.heap.size ∧ W.rangeAt b (k + j * 19) (itF x) := by
  obtain ⟨_, _, _, h3⟩ := h.shape
  have hlt := (List.getElem?_eq_some_iff.1 hx).1
  obtain ⟨b, k, rfl, hb, hr⟩ := h3 (by omega)
  exact ⟨b, k, rfl, hb, flat_range h.1 hr j x hx⟩
theorem itF_addr {x : Pfx × Int} (h : (itF x).length = 19) : x.1.addr.length = 16 := by
  unfold itF itR Pfx.row at h
  simp [byteVals_length] at h
  exact h
theorem range_pre {W : World} {b k : Nat} {x : Pfx × Int} (h : W.rangeAt b k (itF x)) : W.rangeAt b k x.1.row := fun j v hv => by
  refine h j v ?_
  unfold itF itR
  rw [List.getElem?_append_left (List.getElem?_eq_some_iff.1 hv).1]
  exact hv
set_option maxRecDepth 100000 in
set_option maxHeartbeats 8000000 in
theorem qfind (a : Option Addr) (n cap : Nat) (L : List (Pfx × Int)) (p : Pfx) (w : World) (hC : IsC itF 19 w (.slice a n cap) L) (hp : p.addr.length = 16) (hl : L.length ≤ 1000000) :
    Calls Try.prog 56 #[.slice a n cap, p.val] w fun e w' => e = .returned (.tuple #[.int .i64 (idxT cmpP p L : Nat), .bool (isT cmpP p L)]) ∧ Below w.heap.size w w' := by
  obtain ⟨rfl, hcap, hcm, _⟩ := hC.shape
  have hb : Below w.heap.size w (w.alloc (.cells p.row.toArray 25)) := (Below.refl _ _).alloc (Nat.le_refl _) _
  have HZ := Lib.hid (show FindZ w p (.slice a L.length cap) L _ from ⟨Bx.new w _ p.row, hC.below hb, hb⟩)
  have HP := Lib.hid hp
  have HOK := Lib.hid hC.1
  unfold maxLen at hcm
  rw [show p.val = .agg p.row.toArray from rfl]
  clear hC hp hb
  go_enter Try.func56, Try.ntmps56
  go_wp2
  go_loopw [6] (fun r wr => ∃ j : Nat, j ≤ L.length ∧ r = .int .i64 (j : Int) ∧ (∀ i y, i < j → L[i]? = some y → cmpP y.1 p < 0) ∧ FindZ w p (.slice a L.length cap) L wr) (fun r _ => L.length - (intOf r).toNat)
  case atStart => exact ⟨0, by omega, rfl, fun i y hi => by omega, HZ.out⟩
  case round =>
    obtain ⟨j, hj, rfl, hpre, hz⟩ := hrel
    clear HZ
    by_cases hje : j = L.length
    · subst hje
      have hfe := find_end L hpre
      have HFE := Lib.hid hfe
      have HZ := Lib.hid hz
      clear hpre hz hfe
      go_wp2_with fail
      refine wp_region_noPanic ?_
      refine wp_region_held_drew (S := HeldN) (by kernel_rfl) trivial (fun hHeld => ?_)
      refine held_take (v := ?v74) 0 rfl (by kernel_rfl) (by kernel_rfl) (by kernel_rfl) (fun _ _ _ h => h) (by rfl) ?y74 (by assumption) ?_
      case y74 => (intro w hSw; unfold HeldN at hSw; go_simp; (try with_reducible rfl); (try omega))
      simp only [List.setIfInBounds_toArray, List.set_cons_zero, List.set_cons_succ]
      refine held_take (v := ?v77) 1 rfl (by kernel_rfl) (by kernel_rfl) (by kernel_rfl) (fun _ _ _ h => h) (by rfl) ?y77 (by assumption) ?_
      case y77 => (intro w hSw; unfold HeldN at hSw; go_simp; (try with_reducible rfl); (try omega))
      simp only [List.setIfInBounds_toArray, List.set_cons_zero, List.set_cons_succ]
      refine held_take (v := ?v80) 2 rfl (by kernel_rfl) (by kernel_rfl) (by kernel_rfl) (fun _ _ _ h => h) (by rfl) ?y80 (by assumption) ?_
      case y80 => (intro w hSw; unfold HeldN at hSw; go_simp; (try with_reducible rfl); (try omega))
      simp only [List.setIfInBounds_toArray, List.set_cons_zero, List.set_cons_succ]
      refine held_take (v := ?v83) 3 rfl (by kernel_rfl) (by kernel_rfl) (by kernel_rfl) (fun _ _ _ h => h) (by rfl) ?y83 (by assumption) ?_
      case y83 => (intro w hSw; unfold HeldN at hSw; go_simp; (try with_reducible rfl); (try omega))
      simp only [List.setIfInBounds_toArray, List.set_cons_zero, List.set_cons_succ]
      (try rw [decide_eq_false (show ¬ ((L.length : Int) < (L.length : Int)) by omega)])
      refine held_take (v := ?v87) 4 rfl (by kernel_rfl) (by kernel_rfl) (by kernel_rfl) (fun _ _ _ h => h) (by rfl) ?y87 (by assumption) ?_
      case y87 => (intro w hSw; unfold HeldN at hSw; go_simp; (try with_reducible rfl); (try omega))
      simp only [List.setIfInBounds_toArray, List.set_cons_zero, List.set_cons_succ]
      refine held_skip 5 rfl (by kernel_rfl) (by kernel_rfl) (by kernel_rfl) (fun _ _ _ h => h) (by rfl) (by assumption) ?_
      simp only [List.setIfInBounds_toArray, List.set_cons_zero, List.set_cons_succ]
      refine held_skip 6 rfl (by kernel_rfl) (by kernel_rfl) (by kernel_rfl) (fun _ _ _ h => h) (by rfl) (by assumption) ?_
      simp only [List.setIfInBounds_toArray, List.set_cons_zero, List.set_cons_succ]
      refine held_skip 7 rfl (by kernel_rfl) (by kernel_rfl) (by kernel_rfl) (fun _ _ _ h => h) (by rfl) (by assumption) ?_
      simp only [List.setIfInBounds_toArray, List.set_cons_zero, List.set_cons_succ]
      refine held_skip 8 rfl (by kernel_rfl) (by kernel_rfl) (by kernel_rfl) (fun _ _ _ h => h) (by rfl) (by assumption) ?_
      simp only [List.setIfInBounds_toArray, List.set_cons_zero, List.set_cons_succ]
      refine held_skip 9 rfl (by kernel_rfl) (by kernel_rfl) (by kernel_rfl) (fun _ _ _ h => h) (by rfl) (by assumption) ?_
      simp only [List.setIfInBounds_toArray, List.set_cons_zero, List.set_cons_succ]
      refine held_skip 10 rfl (by kernel_rfl) (by kernel_rfl) (by kernel_rfl) (fun _ _ _ h => h) (by rfl) (by assumption) ?_
      simp only [List.setIfInBounds_toArray, List.set_cons_zero, List.set_cons_succ]
      refine held_skip 11 rfl (by kernel_rfl) (by kernel_rfl) (by kernel_rfl) (fun _ _ _ h => h) (by rfl) (by assumption) ?_
      simp only [List.setIfInBounds_toArray, List.set_cons_zero, List.set_cons_succ]
      refine held_skip 12 rfl (by kernel_rfl) (by kernel_rfl) (by kernel_rfl) (fun _ _ _ h => h) (by rfl) (by assumption) ?_
      simp only [List.setIfInBounds_toArray, List.set_cons_zero, List.set_cons_succ]
      refine held_take (v := ?v106) 13 rfl (by kernel_rfl) (by kernel_rfl) (by kernel_rfl) (fun _ _ _ h => h) (by rfl) ?y106 (by assumption) ?_
      case y106 => (intro w hSw; unfold HeldN at hSw; go_simp; (try with_reducible rfl); (try omega))
      simp only [List.setIfInBounds_toArray, List.set_cons_zero, List.set_cons_succ]
      refine wpAnyH_done (by kernel_rfl) ?_ _
      refine NoPanic.normal ?_
      go_wp2
      refine wp_region_noPanic ?_
      refine wp_region_held_drew (S := HeldN) (by kernel_rfl) trivial (fun hHeld => ?_)
      refine held_take (v := ?v114) 0 rfl (by kernel_rfl) (by kernel_rfl) (by kernel_rfl) (fun _ _ _ h => h) (by rfl) ?y114 (by assumption) ?_
      case y114 => (intro w hSw; unfold HeldN at hSw; go_simp; (try with_reducible rfl); (try omega))
      simp only [List.setIfInBounds_toArray, List.set_cons_zero, List.set_cons_succ]
      refine held_take (v := ?v117) 1 rfl (by kernel_rfl) (by kernel_rfl) (by kernel_rfl) (fun _ _ _ h => h) (by rfl) ?y117 (by assumption) ?_
      case y117 => (intro w hSw; unfold HeldN at hSw; go_simp; (try with_reducible rfl); (try omega))
      simp only [List.setIfInBounds_toArray, List.set_cons_zero, List.set_cons_succ]
      refine held_take (v := ?v120) 2 rfl (by kernel_rfl) (by kernel_rfl) (by kernel_rfl) (fun _ _ _ h => h) (by rfl) ?y120 (by assumption) ?_
      case y120 => (intro w hSw; unfold HeldN at hSw; go_simp; (try with_reducible rfl); (try omega))
      simp only [List.setIfInBounds_toArray, List.set_cons_zero, List.set_cons_succ]
      refine held_take (v := ?v123) 3 rfl (by kernel_rfl) (by kernel_rfl) (by kernel_rfl) (fun _ _ _ h => h) (by rfl) ?y123 (by assumption) ?_
      case y123 => (intro w hSw; unfold HeldN at hSw; go_simp; (try with_reducible rfl); (try omega))
      simp only [List.setIfInBounds_toArray, List.set_cons_zero, List.set_cons_succ]
      refine held_take (v := ?v126) 4 rfl (by kernel_rfl) (by kernel_rfl) (by kernel_rfl) (fun _ _ _ h => h) (by rfl) ?y126 (by assumption) ?_
      case y126 => (intro w hSw; unfold HeldN at hSw; go_simp; (try with_reducible rfl); (try omega))
      simp only [List.setIfInBounds_toArray, List.set_cons_zero, List.set_cons_succ]
      (try rw [decide_eq_false (show ¬ ((L.length : Int) < (L.length : Int)) by omega)])
      refine held_take (v := ?v130) 5 rfl (by kernel_rfl) (by kernel_rfl) (by kernel_rfl) (fun _ _ _ h => h) (by rfl) ?y130 (by assumption) ?_
      case y130 => (intro w hSw; unfold HeldN at hSw; go_simp; (try with_reducible rfl); (try omega))
      simp only [List.setIfInBounds_toArray, List.set_cons_zero, List.set_cons_succ]
      refine held_skip 6 rfl (by kernel_rfl) (by kernel_rfl) (by kernel_rfl) (fun _ _ _ h => h) (by rfl) (by assumption) ?_
      simp only [List.setIfInBounds_toArray, List.set_cons_zero, List.set_cons_succ]
      refine held_skip 7 rfl (by kernel_rfl) (by kernel_rfl) (by kernel_rfl) (fun _ _ _ h => h) (by rfl) (by assumption) ?_
      simp only [List.setIfInBounds_toArray, List.set_cons_zero, List.set_cons_succ]
      refine held_skip 8 rfl (by kernel_rfl) (by kernel_rfl) (by kernel_rfl) (fun _ _ _ h => h) (by rfl) (by assumption) ?_
      simp only [List.setIfInBounds_toArray, List.set_cons_zero, List.set_cons_succ]
      refine held_skip 9 rfl (by kernel_rfl) (by kernel_rfl) (by kernel_rfl) (fun _ _ _ h => h) (by rfl) (by assumption) ?_
      simp only [List.setIfInBounds_toArray, List.set_cons_zero, List.set_cons_succ]
      refine held_skip 10 rfl (by kernel_rfl) (by kernel_rfl) (by kernel_rfl) (fun _ _ _ h => h) (by rfl) (by assumption) ?_
      simp only [List.setIfInBounds_toArray, List.set_cons_zero, List.set_cons_succ]
      refine held_skip 11 rfl (by kernel_rfl) (by kernel_rfl) (by kernel_rfl) (fun _ _ _ h => h) (by rfl) (by assumption) ?_
      simp only [List.setIfInBounds_toArray, List.set_cons_zero, List.set_cons_succ]
      refine held_skip 12 rfl (by kernel_rfl) (by kernel_rfl) (by kernel_rfl) (fun _ _ _ h => h) (by rfl) (by assumption) ?_
      simp only [List.setIfInBounds_toArray, List.set_cons_zero, List.set_cons_succ]
      refine held_take (v := ?v147) 13 rfl (by kernel_rfl) (by kernel_rfl) (by kernel_rfl) (fun _ _ _ h => h) (by rfl) ?y147 (by assumption) ?_
      case y147 => (intro w hSw; unfold HeldN at hSw; go_simp; (try with_reducible rfl); (try omega))
      simp only [List.setIfInBounds_toArray, List.set_cons_zero, List.set_cons_succ]
      refine held_take (v := ?v150) 14 rfl (by kernel_rfl) (by kernel_rfl) (by kernel_rfl) (fun _ _ _ h => h) (by rfl) ?y150 (by assumption) ?_
      case y150 => (intro w hSw; unfold HeldN at hSw; go_simp; (try with_reducible rfl); (try omega))
      simp only [List.setIfInBounds_toArray, List.set_cons_zero, List.set_cons_succ]
      refine held_take (v := ?v153) 15 rfl (by kernel_rfl) (by kernel_rfl) (by kernel_rfl) (fun _ _ _ h => h) (by rfl) ?y153 (by assumption) ?_
      case y153 => (intro w hSw; unfold HeldN at hSw; go_simp; (try with_reducible rfl); (try omega))
      simp only [List.setIfInBounds_toArray, List.set_cons_zero, List.set_cons_succ]
      refine wpAnyH_done (by kernel_rfl) ?_ _
      refine NoPanic.normal ?_
      go_wp2
      go_ret2
      refine ⟨by rw [HFE.out.1, HFE.out.2]; rfl, HZ.out.2.2.drew.drew⟩
    · have hlt : j < L.length := by omega
      obtain ⟨x, hx⟩ : ∃ x, L[j]? = some x := ⟨_, List.getElem?_eq_getElem hlt⟩
      obtain ⟨b, k, rfl, hbw, hr⟩ := isC_at hz.2.1 j x hx
      have hx16 : x.1.addr.length = 16 := itF_addr (HOK.out x (List.mem_of_getElem? hx))
      have HX := Lib.hid hx16
      have hi3 : (j : Int) < (L.length : Int) := by omega
      have hr2 := range_pre hr
      have HHF := Lib.hid (fun W (hb : Below wr.heap.size wr W) => (⟨hz.1.up hb, fun i v hv => (hb.cell (p := ⟨b, k + j * 19 + i, none⟩) hbw).trans (hr2 i v hv)⟩ : HeldF w.heap.size p.row b (k + j * 19) x.1.row W))
      have HC := Lib.hid (fun W => qcompare_any x.1 p W hx16 HP.out)
      have HZ := Lib.hid hz
      by_cases hc : cmpP x.1 p < 0
      · have HPRE : Hid (∀ i y, i < j + 1 → L[i]? = some y → cmpP y.1 p < 0) := fun i y hi hy => by
          rcases Nat.lt_or_ge i j with h | h
          · exact hpre i y h hy
          · obtain rfl : i = j := by omega
            rw [hx] at hy; cases hy; exact hc
        clear hpre hz hr hr2 hx16
        generalize cmpP x.1 p = cc at *
        go_wp2_with fail
        refine wp_region_noPanic ?_
        refine wp_region_held_drew (S := HeldF w.heap.size p.row b (k + j * 19) x.1.row) (by kernel_rfl) (HHF.out _ (Below.refl _ _).drew) (fun hHeld => ?_)
        refine held_take (v := ?v182) 0 rfl (by kernel_rfl) (by kernel_rfl) (by kernel_rfl) (fun _ _ _ h => h) (by rfl) ?y182 (by assumption) ?_
        case y182 => (intro w hSw; unfold HeldF at hSw; go_simp; (try with_reducible rfl); (try omega))
        simp only [List.setIfInBounds_toArray, List.set_cons_zero, List.set_cons_succ]
        refine held_take (v := ?v185) 1 rfl (by kernel_rfl) (by kernel_rfl) (by kernel_rfl) (fun _ _ _ h => h) (by rfl) ?y185 (by assumption) ?_
        case y185 => (intro w hSw; unfold HeldF at hSw; go_simp; (try with_reducible rfl); (try omega))
        simp only [List.setIfInBounds_toArray, List.set_cons_zero, List.set_cons_succ]
        refine held_take (v := ?v188) 2 rfl (by kernel_rfl) (by kernel_rfl) (by kernel_rfl) (fun _ _ _ h => h) (by rfl) ?y188 (by assumption) ?_
        case y188 => (intro w hSw; unfold HeldF at hSw; go_simp; (try with_reducible rfl); (try omega))
        simp only [List.setIfInBounds_toArray, List.set_cons_zero, List.set_cons_succ]
        refine held_take (v := ?v191) 3 rfl (by kernel_rfl) (by kernel_rfl) (by kernel_rfl) (fun _ _ _ h => h) (by rfl) ?y191 (by assumption) ?_
        case y191 => (intro w hSw; unfold HeldF at hSw; go_simp; (try with_reducible rfl); (try omega))
        simp only [List.setIfInBounds_toArray, List.set_cons_zero, List.set_cons_succ]
        (try rw [decide_eq_true hi3])
        refine held_take (v := ?v195) 4 rfl (by kernel_rfl) (by kernel_rfl) (by kernel_rfl) (fun _ _ _ h => h) (by rfl) ?y195 (by assumption) ?_
        case y195 => (intro w hSw; unfold HeldF at hSw; go_simp; (try with_reducible rfl); (try omega))
        simp only [List.setIfInBounds_toArray, List.set_cons_zero, List.set_cons_succ]
        refine held_take (v := ?v198) 5 rfl (by kernel_rfl) (by kernel_rfl) (by kernel_rfl) (fun _ _ _ h => h) (by rfl) ?y198 (by assumption) ?_
        case y198 => (intro w hSw; unfold HeldF at hSw; go_simp; (try with_reducible rfl); (try omega))
        simp only [List.setIfInBounds_toArray, List.set_cons_zero, List.set_cons_succ]
        refine held_take (v := ?v201) 6 rfl (by kernel_rfl) (by kernel_rfl) (by kernel_rfl) (fun _ _ _ h => h) (by rfl) ?y201 (by assumption) ?_
        case y201 => (intro w hSw; unfold HeldF at hSw; go_simp; (try with_reducible rfl); (try omega))
        simp only [List.setIfInBounds_toArray, List.set_cons_zero, List.set_cons_succ]
        refine held_take (v := ?v204) 7 rfl (by kernel_rfl) (by kernel_rfl) (by kernel_rfl) (fun _ _ _ h => h) (by rfl) ?y204 (by assumption) ?_
        case y204 => (intro w hSw; unfold HeldF at hSw; go_simp; (try with_reducible rfl); (try omega))
        simp only [List.setIfInBounds_toArray, List.set_cons_zero, List.set_cons_succ]
        refine held_take (v := ?v207) 8 rfl (by kernel_rfl) (by kernel_rfl) (by kernel_rfl) (fun _ _ _ h => h) (by rfl) ?y207 (by assumption) ?_
        case y207 => (intro w hSw; unfold HeldF at hSw; go_simp; (try with_reducible rfl); (try omega))
        simp only [List.setIfInBounds_toArray, List.set_cons_zero, List.set_cons_succ]
        refine held_take (v := x.1.val) 9 rfl (by kernel_rfl) (by kernel_rfl) (by kernel_rfl) (fun _ _ _ h => h) (by rfl) (fun W hSw => exec_load_any _ (.tmp 15) rfl b (k + j * 19) x.1.row _ rfl hSw.2 Try.underlying25 rfl (pf_infoC HX.out)) (by assumption) ?_
        simp only [List.setIfInBounds_toArray, List.set_cons_zero, List.set_cons_succ]
        refine held_take (v := p.val) 10 rfl (by kernel_rfl) (by kernel_rfl) (by kernel_rfl) (fun _ _ _ h => h) (by rfl) (fun W hSw => exec_load_any _ (.tmp 3) rfl w.heap.size 0 p.row _ rfl (rangeAll hSw.1) Try.underlying25 rfl (pf_infoC HP.out)) (by assumption) ?_
        simp only [List.setIfInBounds_toArray, List.set_cons_zero, List.set_cons_succ]
        refine held_one 11 rfl (by kernel_rfl) (by rfl) (fun K hK => ?_)
        go_simp
        refine (HC.out _).mono ?_
        rintro e w1 ⟨rfl, b1⟩
        have hb1 : Below wr.heap.size wr w1 := (Below.refl wr.heap.size wr).drew.trans b1
        have hH1 := HHF.out _ hb1
        refine hK.out _ _ hH1 (fun _ => ?_)
        clear hK K b1
        refine held_take (v := ?v222) 12 rfl (by kernel_rfl) (by kernel_rfl) (by kernel_rfl) (fun _ _ _ h => h) (by rfl) ?y222 (by assumption) ?_
        case y222 => (intro w hSw; unfold HeldF at hSw; go_simp; (try with_reducible rfl); (try omega))
        simp only [List.setIfInBounds_toArray, List.set_cons_zero, List.set_cons_succ]
        (try rw [decide_eq_true hc])
        refine held_take (v := ?v226) 13 rfl (by kernel_rfl) (by kernel_rfl) (by kernel_rfl) (fun _ _ _ h => h) (by rfl) ?y226 (by assumption) ?_
        case y226 => (intro w hSw; unfold HeldF at hSw; go_simp; (try with_reducible rfl); (try omega))
        simp only [List.setIfInBounds_toArray, List.set_cons_zero, List.set_cons_succ]
        refine wpAnyH_done (by kernel_rfl) ?_ _
        refine NoPanic.normal ?_
        have HZ1 := Lib.hid (HZ.out.up hb1)
        clear hHeld hb1 hH1
        go_wp2
        go_roundw
        case rel => exact ⟨j + 1, by omega, by go_num, HPRE.out, HZ1.out⟩
        case measure => simp [intOf]; omega
      · have hfa := find_at L j x hpre hx hc
        have hq : decide (cmpP x.1 p = 0) = eqP x.1 p := by
          rw [Bool.eq_iff_iff, decide_eq_true_iff, eqP_iff]
          exact ⟨fun h => cmpP_zero (hx16.trans HP.out.symm) h, fun h => by rw [h]; exact cmpP_ord.refl p⟩
        rw [hq] at hfa
        have HFA := Lib.hid hfa
        clear hpre hz hr hr2 hx16 hfa hq
        generalize cmpP x.1 p = cc at *
        generalize heq : eqP x.1 p = eb at *
        go_wp2_with fail
        refine wp_region_noPanic ?_
        refine wp_region_held_drew (S := HeldF w.heap.size p.row b (k + j * 19) x.1.row) (by kernel_rfl) (HHF.out _ (Below.refl _ _).drew) (fun hHeld => ?_)
        refine held_take (v := ?v249) 0 rfl (by kernel_rfl) (by kernel_rfl) (by kernel_rfl) (fun _ _ _ h => h) (by rfl) ?y249 (by assumption) ?_
        case y249 => (intro w hSw; unfold HeldF at hSw; go_simp; (try with_reducible rfl); (try omega))
        simp only [List.setIfInBounds_toArray, List.set_cons_zero, List.set_cons_succ]
        refine held_take (v := ?v252) 1 rfl (by kernel_rfl) (by kernel_rfl) (by kernel_rfl) (fun _ _ _ h => h) (by rfl) ?y252 (by assumption) ?_
        case y252 => (intro w hSw; unfold HeldF at hSw; go_simp; (try with_reducible rfl); (try omega))
        simp only [List.setIfInBounds_toArray, List.set_cons_zero, List.set_cons_succ]
        refine held_take (v := ?v255) 2 rfl (by kernel_rfl) (by kernel_rfl) (by kernel_rfl) (fun _ _ _ h => h) (by rfl) ?y255 (by assumption) ?_
        case y255 => (intro w hSw; unfold HeldF at hSw; go_simp; (try with_reducible rfl); (try omega))
        simp only [List.setIfInBounds_toArray, List.set_cons_zero, List.set_cons_succ]
        refine held_take (v := ?v258) 3 rfl (by kernel_rfl) (by kernel_rfl) (by kernel_rfl) (fun _ _ _ h => h) (by rfl) ?y258 (by assumption) ?_
        case y258 => (intro w hSw; unfold HeldF at hSw; go_simp; (try with_reducible rfl); (try omega))
        simp only [List.setIfInBounds_toArray, List.set_cons_zero, List.set_cons_succ]
        (try rw [decide_eq_true hi3])
        refine held_take (v := ?v262) 4 rfl (by kernel_rfl) (by kernel_rfl) (by kernel_rfl) (fun _ _ _ h => h) (by rfl) ?y262 (by assumption) ?_
        case y262 => (intro w hSw; unfold HeldF at hSw; go_simp; (try with_reducible rfl); (try omega))
        simp only [List.setIfInBounds_toArray, List.set_cons_zero, List.set_cons_succ]
        refine held_take (v := ?v265) 5 rfl (by kernel_rfl) (by kernel_rfl) (by kernel_rfl) (fun _ _ _ h => h) (by rfl) ?y265 (by assumption) ?_
        case y265 => (intro w hSw; unfold HeldF at hSw; go_simp; (try with_reducible rfl); (try omega))
        simp only [List.setIfInBounds_toArray, List.set_cons_zero, List.set_cons_succ]
        refine held_take (v := ?v268) 6 rfl (by kernel_rfl) (by kernel_rfl) (by kernel_rfl) (fun _ _ _ h => h) (by rfl) ?y268 (by assumption) ?_
        case y268 => (intro w hSw; unfold HeldF at hSw; go_simp; (try with_reducible rfl); (try omega))
        simp only [List.setIfInBounds_toArray, List.set_cons_zero, List.set_cons_succ]
        refine held_take (v := ?v271) 7 rfl (by kernel_rfl) (by kernel_rfl) (by kernel_rfl) (fun _ _ _ h => h) (by rfl) ?y271 (by assumption) ?_
        case y271 => (intro w hSw; unfold HeldF at hSw; go_simp; (try with_reducible rfl); (try omega))
        simp only [List.setIfInBounds_toArray, List.set_cons_zero, List.set_cons_succ]
        refine held_take (v := ?v274) 8 rfl (by kernel_rfl) (by kernel_rfl) (by kernel_rfl) (fun _ _ _ h => h) (by rfl) ?y274 (by assumption) ?_
        case y274 => (intro w hSw; unfold HeldF at hSw; go_simp; (try with_reducible rfl); (try omega))
        simp only [List.setIfInBounds_toArray, List.set_cons_zero, List.set_cons_succ]
        refine held_take (v := x.1.val) 9 rfl (by kernel_rfl) (by kernel_rfl) (by kernel_rfl) (fun _ _ _ h => h) (by rfl) (fun W hSw => exec_load_any _ (.tmp 15) rfl b (k + j * 19) x.1.row _ rfl hSw.2 Try.underlying25 rfl (pf_infoC HX.out)) (by assumption) ?_
        simp only [List.setIfInBounds_toArray, List.set_cons_zero, List.set_cons_succ]
        refine held_take (v := p.val) 10 rfl (by kernel_rfl) (by kernel_rfl) (by kernel_rfl) (fun _ _ _ h => h) (by rfl) (fun W hSw => exec_load_any _ (.tmp 3) rfl w.heap.size 0 p.row _ rfl (rangeAll hSw.1) Try.underlying25 rfl (pf_infoC HP.out)) (by assumption) ?_
        simp only [List.setIfInBounds_toArray, List.set_cons_zero, List.set_cons_succ]
        refine held_one 11 rfl (by kernel_rfl) (by rfl) (fun K hK => ?_)
        go_simp
        refine (HC.out _).mono ?_
        rintro e w1 ⟨rfl, b1⟩
        have hb1 : Below wr.heap.size wr w1 := (Below.refl wr.heap.size wr).drew.trans b1
        have hH1 := HHF.out _ hb1
        refine hK.out _ _ hH1 (fun _ => ?_)
        clear hK K b1
        refine held_take (v := ?v289) 12 rfl (by kernel_rfl) (by kernel_rfl) (by kernel_rfl) (fun _ _ _ h => h) (by rfl) ?y289 (by assumption) ?_
        case y289 => (intro w hSw; unfold HeldF at hSw; go_simp; (try with_reducible rfl); (try omega))
        simp only [List.setIfInBounds_toArray, List.set_cons_zero, List.set_cons_succ]
        (try rw [decide_eq_false (show ¬ cc < 0 by omega)])
        refine held_take (v := ?v293) 13 rfl (by kernel_rfl) (by kernel_rfl) (by kernel_rfl) (fun _ _ _ h => h) (by rfl) ?y293 (by assumption) ?_
        case y293 => (intro w hSw; unfold HeldF at hSw; go_simp; (try with_reducible rfl); (try omega))
        simp only [List.setIfInBounds_toArray, List.set_cons_zero, List.set_cons_succ]
        refine wpAnyH_done (by kernel_rfl) ?_ _
        refine NoPanic.normal ?_
        have HZ1 := Lib.hid (HZ.out.up hb1)
        have HH1 := Lib.hid (HHF.out _ (below_up hb1 (Below.refl _ _).drew hb1.size))
        clear hHeld hb1 hH1
        go_wp2
        refine wp_region_noPanic ?_
        refine wp_region_held_drew (S := HeldF w.heap.size p.row b (k + j * 19) x.1.row) (by kernel_rfl) HH1.out (fun hHeld => ?_)
        refine held_take (v := ?v304) 0 rfl (by kernel_rfl) (by kernel_rfl) (by kernel_rfl) (fun _ _ _ h => h) (by rfl) ?y304 (by assumption) ?_
        case y304 => (intro w hSw; unfold HeldF at hSw; go_simp; (try with_reducible rfl); (try omega))
        simp only [List.setIfInBounds_toArray, List.set_cons_zero, List.set_cons_succ]
        refine held_take (v := ?v307) 1 rfl (by kernel_rfl) (by kernel_rfl) (by kernel_rfl) (fun _ _ _ h => h) (by rfl) ?y307 (by assumption) ?_
        case y307 => (intro w hSw; unfold HeldF at hSw; go_simp; (try with_reducible rfl); (try omega))
        simp only [List.setIfInBounds_toArray, List.set_cons_zero, List.set_cons_succ]
        refine held_take (v := ?v310) 2 rfl (by kernel_rfl) (by kernel_rfl) (by kernel_rfl) (fun _ _ _ h => h) (by rfl) ?y310 (by assumption) ?_
        case y310 => (intro w hSw; unfold HeldF at hSw; go_simp; (try with_reducible rfl); (try omega))
        simp only [List.setIfInBounds_toArray, List.set_cons_zero, List.set_cons_succ]
        refine held_take (v := ?v313) 3 rfl (by kernel_rfl) (by kernel_rfl) (by kernel_rfl) (fun _ _ _ h => h) (by rfl) ?y313 (by assumption) ?_
        case y313 => (intro w hSw; unfold HeldF at hSw; go_simp; (try with_reducible rfl); (try omega))
        simp only [List.setIfInBounds_toArray, List.set_cons_zero, List.set_cons_succ]
        refine held_take (v := ?v316) 4 rfl (by kernel_rfl) (by kernel_rfl) (by kernel_rfl) (fun _ _ _ h => h) (by rfl) ?y316 (by assumption) ?_
        case y316 => (intro w hSw; unfold HeldF at hSw; go_simp; (try with_reducible rfl); (try omega))
        simp only [List.setIfInBounds_toArray, List.set_cons_zero, List.set_cons_succ]
        (try rw [decide_eq_true hi3])
        refine held_take (v := ?v320) 5 rfl (by kernel_rfl) (by kernel_rfl) (by kernel_rfl) (fun _ _ _ h => h) (by rfl) ?y320 (by assumption) ?_
        case y320 => (intro w hSw; unfold HeldF at hSw; go_simp; (try with_reducible rfl); (try omega))
        simp only [List.setIfInBounds_toArray, List.set_cons_zero, List.set_cons_succ]
        refine held_take (v := ?v323) 6 rfl (by kernel_rfl) (by kernel_rfl) (by kernel_rfl) (fun _ _ _ h => h) (by rfl) ?y323 (by assumption) ?_
        case y323 => (intro w hSw; unfold HeldF at hSw; go_simp; (try with_reducible rfl); (try omega))
        simp only [List.setIfInBounds_toArray, List.set_cons_zero, List.set_cons_succ]
        refine held_take (v := ?v326) 7 rfl (by kernel_rfl) (by kernel_rfl) (by kernel_rfl) (fun _ _ _ h => h) (by rfl) ?y326 (by assumption) ?_
        case y326 => (intro w hSw; unfold HeldF at hSw; go_simp; (try with_reducible rfl); (try omega))
        simp only [List.setIfInBounds_toArray, List.set_cons_zero, List.set_cons_succ]
        refine held_take (v := ?v329) 8 rfl (by kernel_rfl) (by kernel_rfl) (by kernel_rfl) (fun _ _ _ h => h) (by rfl) ?y329 (by assumption) ?_
        case y329 => (intro w hSw; unfold HeldF at hSw; go_simp; (try with_reducible rfl); (try omega))
        simp only [List.setIfInBounds_toArray, List.set_cons_zero, List.set_cons_succ]
        refine held_take (v := ?v332) 9 rfl (by kernel_rfl) (by kernel_rfl) (by kernel_rfl) (fun _ _ _ h => h) (by rfl) ?y332 (by assumption) ?_
        case y332 => (intro w hSw; unfold HeldF at hSw; go_simp; (try with_reducible rfl); (try omega))
        simp only [List.setIfInBounds_toArray, List.set_cons_zero, List.set_cons_succ]
        refine held_take (v := x.1.val) 10 rfl (by kernel_rfl) (by kernel_rfl) (by kernel_rfl) (fun _ _ _ h => h) (by rfl) (fun W hSw => exec_load_any _ (.tmp 32) rfl b (k + j * 19) x.1.row _ rfl hSw.2 Try.underlying25 rfl (pf_infoC HX.out)) (by assumption) ?_
        simp only [List.setIfInBounds_toArray, List.set_cons_zero, List.set_cons_succ]
        refine held_take (v := p.val) 11 rfl (by kernel_rfl) (by kernel_rfl) (by kernel_rfl) (fun _ _ _ h => h) (by rfl) (fun W hSw => exec_load_any _ (.tmp 3) rfl w.heap.size 0 p.row _ rfl (rangeAll hSw.1) Try.underlying25 rfl (pf_infoC HP.out)) (by assumption) ?_
        simp only [List.setIfInBounds_toArray, List.set_cons_zero, List.set_cons_succ]
        refine held_take (v := .bool eb) 12 rfl (by kernel_rfl) (by kernel_rfl) (by kernel_rfl) (fun _ _ _ h => h) (by rfl) (fun W hSw => heq ▸ exec_eql_pfx 33 34 _ rfl x.1 p HX.out HP.out rfl rfl) (by assumption) ?_
        simp only [List.setIfInBounds_toArray, List.set_cons_zero, List.set_cons_succ]
        refine held_take (v := ?v341) 13 rfl (by kernel_rfl) (by kernel_rfl) (by kernel_rfl) (fun _ _ _ h => h) (by rfl) ?y341 (by assumption) ?_
        case y341 => (intro w hSw; unfold HeldF at hSw; go_simp; (try with_reducible rfl); (try omega))
        simp only [List.setIfInBounds_toArray, List.set_cons_zero, List.set_cons_succ]
        refine held_take (v := ?v344) 14 rfl (by kernel_rfl) (by kernel_rfl) (by kernel_rfl) (fun _ _ _ h => h) (by rfl) ?y344 (by assumption) ?_
        case y344 => (intro w hSw; unfold HeldF at hSw; go_simp; (try with_reducible rfl); (try omega))
        simp only [List.setIfInBounds_toArray, List.set_cons_zero, List.set_cons_succ]
        refine held_take (v := ?v347) 15 rfl (by kernel_rfl) (by kernel_rfl) (by kernel_rfl) (fun _ _ _ h => h) (by rfl) ?y347 (by assumption) ?_
        case y347 => (intro w hSw; unfold HeldF at hSw; go_simp; (try with_reducible rfl); (try omega))
        simp only [List.setIfInBounds_toArray, List.set_cons_zero, List.set_cons_succ]
        refine wpAnyH_done (by kernel_rfl) ?_ _
        refine NoPanic.normal ?_
        go_wp2
        go_ret2
        refine ⟨by rw [HFA.out.1, HFA.out.2]; rfl, HZ1.out.2.2.drew⟩
end Go.Proofs.Ytgimcapcnidjjaa
namespace Go.Proofs.Ytgimcapcnidjjaa
open Go Go.RowKit

/-- A table by value. -/
def tR (is six : Bool) (room : Int) (v : Value) : List Value := [.bool is, .bool six, .int .i64 room, v]
def tV (is six : Bool) (room : Int) (v : Value) : Value := .agg (tR is six room v).toArray
theorem t_info : (Try.prog.info? 31).map (·.size) = some 4 := by kernel_rfl
theorem t_one (is six : Bool) (room : Int) (v : Value) (hv : v.oneCell' = true) : ∀ u ∈ tR is six room v, u.oneCell' = true := by
  intro u hu
  unfold tR at hu
  simp only [List.mem_cons] at hu
  rcases hu with rfl | rfl | rfl | rfl | hu
  · rfl
  · rfl
  · rfl
  · exact hv
  · cases hu
theorem built_t0 : Try.prog.built 31 [] = some (tR false false 0 (.slice none 0 0)).toArray := by kernel_rfl
theorem built_t3 (six : Bool) (room : Int) : Try.prog.built 31 [(0, .bool true), (1, .bool six), (2, .int .i64 room)] = some (tR true six room (.slice none 0 0)).toArray := by kernel_rfl
theorem qnew_none (six : Bool) (room : Int) (w : World) (h : room < 1 ∨ 65536 < room) : Calls Try.prog 30 #[.bool six, .int .i64 room] w fun e w' => e = .returned (tV false false 0 (.slice none 0 0)) ∧ Below w.heap.size w w' := by
  have ez : (#[.bool false, .bool false, .int .i64 0, .slice none 0 0] : Array Value) = (tR false false 0 (.slice none 0 0)).toArray := rfl
  have HX := Lib.hid (Bx.new w 31 (tR false false 0 (.slice none 0 0)))
  have HB := Lib.hid ((Below.refl w.heap.size w).alloc (Nat.le_refl _) (.cells (tR false false 0 (.slice none 0 0)).toArray 31))
  rcases h with h | h
  · go_enter Try.func30, Try.ntmps30
    go_wp2_with (first
      | (refine wpList_build0 rfl 31 rfl (tR false false 0 (.slice none 0 0)) built_t0 ?_)
      | (refine wpList_store_bx rfl 31 (.tmp 4) (.tmp 11) rfl w.heap.size (tR false false 0 (.slice none 0 0)) (tR false false 0 (.slice none 0 0)) rfl rfl HX.out t_info rfl (t_one _ _ _ _ rfl) ?_; refine Hid.out ?_))
    refine Lib.hid ?_
    go_wp2
    exact bodyPost_ret (results_cell_row Try.results30 _ _ w.heap.size _ _ _ _ rfl (HX.out.row _) Try.underlying31 rfl t_info) rfl ⟨rfl, below_row HB.out (Nat.le_refl _) _⟩
  · have h1 : ¬ room < 1 := by omega
    go_enter Try.func30, Try.ntmps30
    go_wp2_with (first
      | (refine wpList_build0 rfl 31 rfl (tR false false 0 (.slice none 0 0)) built_t0 ?_)
      | (refine wpList_store_bx rfl 31 (.tmp 4) (.tmp 11) rfl w.heap.size (tR false false 0 (.slice none 0 0)) (tR false false 0 (.slice none 0 0)) rfl rfl HX.out t_info rfl (t_one _ _ _ _ rfl) ?_; refine Hid.out ?_))
    refine Lib.hid ?_
    go_wp2
    exact bodyPost_ret (results_cell_row Try.results30 _ _ w.heap.size _ _ _ _ rfl (HX.out.row _) Try.underlying31 rfl t_info) rfl ⟨rfl, below_row HB.out (Nat.le_refl _) _⟩
theorem qnew_some (six : Bool) (room : Int) (w : World) (h1 : 1 ≤ room) (h2 : room ≤ 65536) : Calls Try.prog 30 #[.bool six, .int .i64 room] w fun e w' => e = .returned (tV true six room (.slice none 0 0)) ∧ Below w.heap.size w w' := by
  have ez : (#[.bool false, .bool false, .int .i64 0, .slice none 0 0] : Array Value) = (tR false false 0 (.slice none 0 0)).toArray := rfl
  have HX := Lib.hid (Bx.new w 31 (tR false false 0 (.slice none 0 0)))
  have HB := Lib.hid ((Below.refl w.heap.size w).alloc (Nat.le_refl _) (.cells (tR false false 0 (.slice none 0 0)).toArray 31))
  go_enter Try.func30, Try.ntmps30
  go_wp2_with (first
    | (refine plV rfl (tV true six room (.slice none 0 0)) (exec_build3 _ 0 1 2 _ (.tmp 12) (.tmp 13) rfl (.bool true) (.bool six) (.int .i64 room) (tR true six room (.slice none 0 0)) rfl rfl rfl (built_t3 six room)) ?_)
    | (refine wpList_store_bx rfl 31 (.tmp 4) (.tmp 14) rfl w.heap.size (tR true six room (.slice none 0 0)) (tR false false 0 (.slice none 0 0)) rfl rfl HX.out t_info rfl (t_one _ _ _ _ rfl) ?_; refine Hid.out ?_))
  refine Lib.hid ?_
  go_wp2
  exact bodyPost_ret (results_cell_row Try.results30 _ _ w.heap.size _ _ _ _ rfl (HX.out.row _) Try.underlying31 rfl t_info) rfl ⟨rfl, below_row HB.out (Nat.le_refl _) _⟩
set_option maxRecDepth 100000 in
set_option maxHeartbeats 4000000 in
theorem qright (is six : Bool) (room : Int) (v : Value) (p : Pfx) (w : World) (hp : p.addr.length = 16) : Calls Try.prog 55 #[tV is six room v, p.val] w fun e w' => e = .returned (.bool (is && (chkP p && (p.six == six)))) ∧ Below w.heap.size w w' := by
  have HC := Lib.hid (fun W => qcheck_any p W hp)
  have HZ := Lib.hid (twoB_new w 31 25 (tR is six room v) p.row)
  have HP := Lib.hid hp
  have c0 : ((w.alloc (.cells (tR is six room v).toArray 31)).alloc (.cells p.row.toArray 25)).cell? ⟨w.heap.size, 0, none⟩ = some (.bool is) := by rw [HZ.out.1.cell]; rfl
  have R1 := Lib.hid (rangeAll HZ.out.2.1)
  rw [show tV is six room v = .agg (tR is six room v).toArray from rfl, show p.val = .agg p.row.toArray from rfl]
  clear hp
  cases is
  · go_enter Try.func55, Try.ntmps55
    go_wp2
    go_ret
    exact ⟨rfl, HZ.out.2.2⟩
  · have hrow : p.row[0]? = some (.bool p.six) := rfl
    generalize p.six = s6 at *
    cases hck : chkP p
    · rw [hck] at HC
      simp only [Bool.false_eq_true, if_false] at HC
      go_enter Try.func55, Try.ntmps55
      go_wp2_with (first
        | (refine plV rfl p.val (exec_load_any _ (.tmp 3) rfl (w.heap.size + 1) 0 p.row _ rfl R1.out Try.underlying25 rfl (pf_infoC HP.out)) ?_)
        | (go_at_call 26; refine (HC.out _).mono ?_; rintro e w1 ⟨rfl, b1⟩; refine Hid.out ?_))
      refine Lib.hid ?_
      have z1 := HZ.out.up b1
      have c1 : w1.cell? ⟨w.heap.size, 1, none⟩ = some (.bool six) := by rw [z1.1.cell]; rfl
      have c2 : w1.cell? ⟨w.heap.size + 1, 0, none⟩ = some (.bool s6) := by rw [z1.2.1.cell]; exact hrow
      have HZ1 := Lib.hid z1
      clear z1 HZ R1 c0 b1
      go_wp2
      go_ret
      exact ⟨rfl, HZ1.out.2.2⟩
    · rw [hck] at HC
      simp only [if_true] at HC
      go_enter Try.func55, Try.ntmps55
      go_wp2_with (first
        | (refine plV rfl p.val (exec_load_any _ (.tmp 3) rfl (w.heap.size + 1) 0 p.row _ rfl R1.out Try.underlying25 rfl (pf_infoC HP.out)) ?_)
        | (go_at_call 26; refine (HC.out _).mono ?_; rintro e w1 ⟨rfl, b1⟩; refine Hid.out ?_))
      refine Lib.hid ?_
      have z1 := HZ.out.up b1
      have c1 : w1.cell? ⟨w.heap.size, 1, none⟩ = some (.bool six) := by rw [z1.1.cell]; rfl
      have c2 : w1.cell? ⟨w.heap.size + 1, 0, none⟩ = some (.bool s6) := by rw [z1.2.1.cell]; exact hrow
      have HZ1 := Lib.hid z1
      clear z1 HZ R1 c0 b1
      cases s6 <;> cases six <;> (go_wp2; go_ret; exact ⟨rfl, HZ1.out.2.2⟩)
set_option maxRecDepth 100000 in
set_option maxHeartbeats 4000000 in
theorem qget (is six : Bool) (room : Int) (a : Option Addr) (n cap : Nat) (L : List (Pfx × Int)) (p : Pfx) (w : World) (hC : IsC itF 19 w (.slice a n cap) L) (hp : p.addr.length = 16) (hl : L.length ≤ 1000000) :
    Calls Try.prog 39 #[tV is six room (.slice a n cap), p.val] w fun e w' => e = .returned (.tuple #[.int .i64 ((getT cmpP p L).getD 0), .bool (getT cmpP p L).isSome]) ∧ Below w.heap.size w w' := by
  have HZ := Lib.hid (twoB_new w 31 25 (tR is six room (.slice a n cap)) p.row)
  have HF := Lib.hid (qfind a n cap L p _ (hC.below HZ.out.2.2) hp hl)
  have HP := Lib.hid hp
  have c0 : ((w.alloc (.cells (tR is six room (.slice a n cap)).toArray 31)).alloc (.cells p.row.toArray 25)).cell? ⟨w.heap.size, 3, none⟩ = some (.slice a n cap) := by rw [HZ.out.1.cell]; rfl
  have R1 := Lib.hid (rangeAll HZ.out.2.1)
  have hgf := getT_form (c := cmpP) p L
  have HGF := Lib.hid hgf
  have HC := Lib.hid hC
  rw [show tV is six room (.slice a n cap) = .agg (tR is six room (.slice a n cap)).toArray from rfl, show p.val = .agg p.row.toArray from rfl]
  clear hp hgf
  generalize hjj : idxT cmpP p L = j at *
  generalize hbb : isT cmpP p L = ib at *
  go_enter Try.func39, Try.ntmps39
  go_wp2_with (first
    | (refine plV rfl p.val (exec_load_any _ (.tmp 3) rfl (w.heap.size + 1) 0 p.row _ rfl R1.out Try.underlying25 rfl (pf_infoC HP.out)) ?_)
    | (go_at_call 56; refine HF.out.mono ?_; rintro e w1 ⟨rfl, b1⟩; refine Hid.out ?_))
  refine Lib.hid ?_
  have z1 := HZ.out.up b1
  cases ib
  · have hg := HGF.out
    simp only [Bool.false_eq_true, if_false] at hg
    go_wp2
    go_ret2
    exact ⟨by rw [hg]; rfl, z1.2.2⟩
  · have hg := HGF.out
    simp only [if_true] at hg
    have hlt : j < L.length := by
      have h1 := isT_get (c := cmpP) p L
      rw [hbb, hg] at h1
      rcases Nat.lt_or_ge j L.length with h | h
      · exact h
      · rw [List.getElem?_eq_none h] at h1; cases h1
    obtain ⟨x, hx⟩ : ∃ x, L[j]? = some x := ⟨_, List.getElem?_eq_getElem hlt⟩
    rw [hx] at hg
    obtain ⟨rfl, _, hcm, _⟩ := HC.out.shape
    unfold maxLen at hcm
    have hC1 := hC.below z1.2.2
    obtain ⟨b, k, rfl, hbw, hr⟩ := isC_at hC1 j x hx
    have hx16 := itF_addr (hC.1 x (List.mem_of_getElem? hx))
    have cv : w1.cell? ⟨b, k + j * 19 + 18, none⟩ = some (.int .i64 x.2) := hr 18 _ (it_v hx16)
    have c3 : w1.cell? ⟨w.heap.size, 3, none⟩ = some (.slice (some ⟨b, k, none⟩) L.length cap) := by rw [z1.1.cell]; rfl
    have HZ1 := Lib.hid z1
    have HG := Lib.hid hg
    have hji : (j : Int) < (L.length : Int) := by omega
    clear z1 HZ R1 c0 b1 hC hC1 hr hg HC HGF HF
    go_wp2
    go_ret2
    exact ⟨by rw [HG.out]; rfl, HZ1.out.2.2⟩
end Go.Proofs.Ytgimcapcnidjjaa
namespace Go.Proofs.Ytgimcapcnidjjaa
open Go Go.RowKit

theorem size_I (W : World) : (sizeOf 47).run Try.prog W = .ok 19 W := by
  have h : (Try.prog.info? 47).map (·.size) = some 19 := by kernel_rfl
  cases hq : Try.prog.info? 47 with
  | none => rw [hq] at h; cases h
  | some i =>
    rw [hq] at h
    have : i.size = 19 := by simpa using h
    simp [sizeOf, typeInfo, hq, this]
theorem exec_slice_to {ρ : Operand → Value} {o : Oper} {W : World} (x y : Operand) (ho : o.op = .slice 29 x none (some y) none) (a : Option Addr) (n cap k : Nat) (hx : ρ x = .slice a n cap) (hy : ρ y = .int .i64 (k : Int)) (hk : k ≤ cap) :
    (execOp ρ o).run Try.prog W = .ok (.value (.slice a k cap)) W := by
  have h1 : (k : Int) ≤ (cap : Int) := by omega
  have h2 : (0 : Int) ≤ (k : Int) := by omega
  have h3 : a.map (fun x => x.add 0) = a := by cases a <;> simp [Addr.add]
  unfold execOp
  simp [ho, hx, hy, Instr.sliceAt, Instr.slice, run_underlying Try.underlying29, Instr.sliceBounds, run_sliceBound, h1, h3]
theorem exec_slice_from {ρ : Operand → Value} {o : Oper} {W : World} (x y : Operand) (ho : o.op = .slice 29 x (some y) none none) (a : Option Addr) (n cap k : Nat) (hx : ρ x = .slice a n cap) (hy : ρ y = .int .i64 (k : Int)) (hk : k ≤ n) (hn : n ≤ cap) :
    (execOp ρ o).run Try.prog W = .ok (.value (.slice (if cap = k then a else a.map (fun x => x.add (k * 19))) (n - k) (cap - k))) W := by
  have h1 : (k : Int) ≤ (n : Int) := by omega
  have h2 : (0 : Int) ≤ (k : Int) := by omega
  have h4 : (n : Int) ≤ (cap : Int) := by omega
  unfold execOp
  simp [ho, hx, hy, Instr.sliceAt, Instr.slice, run_underlying Try.underlying29, Instr.sliceBounds, run_sliceBound, h1]
theorem isC_from {W : World} {a : Option Addr} {n cap : Nat} {L : List (Pfx × Int)} (h : IsC itF 19 W (.slice a n cap) L) (k : Nat) (hk : k ≤ n) : IsC itF 19 W (.slice (if cap = k then a else a.map (fun x => x.add (k * 19))) (n - k) (cap - k)) (L.drop k) := by
  obtain ⟨rfl, h1, h2, h3⟩ := h.shape
  by_cases hp : 0 < L.length - k
  · obtain ⟨b, o, rfl, hb, hr⟩ := h3 (by omega)
    have := h.drop k hk
    rw [if_neg (by omega)]
    have e : Option.map (fun x : Addr => x.add (k * 19)) (some ⟨b, o, none⟩) = some ⟨b, o + k * 19, none⟩ := by
      simp only [Option.map_some, Addr.add]
      split <;> simp_all
    rw [e]
    exact this
  · have e : L.drop k = [] := List.drop_of_length_le (by omega)
    rw [e]
    refine ⟨(fun _ h => by cases h), (if cap = k then a else a.map (fun x => x.add (k * 19))), cap - k, ?_, by simp, by omega, fun h => by simp at h⟩
    rw [show L.length - k = 0 by omega]
    rfl
theorem i_infoF : (Try.prog.info? 47).map (fun i => (i.zero, i.size, i.bytes)) = some (some (itV zeroP 0), 19, 40) := by kernel_rfl
theorem i_infoC {p : Pfx} (f : p.addr.length = 16) (v : Int) : (Try.prog.info? 47).map (·.size) = some (itR p v).length := by rw [it_len f]; kernel_rfl
theorem built_i2 (p : Pfx) (f : p.addr.length = 16) (v : Int) : Try.prog.built 47 [(0, p.val), (1, .int .i64 v)] = some (itR p v).toArray := by
  obtain ⟨s, l, n⟩ := p
  obtain ⟨x0, x1, x2, x3, x4, x5, x6, x7, x8, x9, x10, x11, x12, x13, x14, x15, rfl⟩ := list16P f
  clear f
  kernel_rfl
theorem exec_one_i {ρ : Operand → Value} {o : Oper} {w : World} (x : Operand) (ho : o.op = .buildSlice 29 1 #[(0, x)]) (p : Pfx) (v : Int) (f : p.addr.length = 16) (hx : ρ x = itV p v) :
    (execOp ρ o).run Try.prog w = .ok (.value (.slice (some ⟨w.heap.size, 0, none⟩) 1 1)) (w.alloc (.cells (itR p v).toArray 47)) := by
  obtain ⟨i, hi, hz, hs, _⟩ := info_parts i_infoF
  have := run_buildSlice (P := Try.prog) w 29 47 1 #[(0, itV p v)] (itR p v).toArray i (itV zeroP 0) Try.underlying29 hi hz (by rw [hs]; decide) (by rw [hs]; decide) (by rw [hs]; exact fill_it p v f _ (by simp))
  unfold execOp
  simp only [ho, List.map_toArray, List.map_cons, List.map_nil, hx, Sem.run_bind, this, Result.andThen_ok, Sem.run_pure]
theorem results_t2 {fn : Func} {u v : Tmp} (h : fn.results = #[.cell u 31, .tmp v]) (tmps : Array Value) (w : World) (g : Nat) (l : List Value) (hl : l.length = 4) (hp : tmps.getD u undef = .pointer (some ⟨g, 0, none⟩))
    (hg : Bx w g 31 l) : (results fn tmps).run Try.prog w = .ok (.tuple #[.agg l.toArray, tmps.getD v undef]) w := by
  rw [results_cell_tmp h, hp]
  have := run_loadVar_row (P := Try.prog) w g _ _ l.toArray (0, 0) _ hg Try.underlying31 rfl (by rw [t_info]; simp [hl])
  simp only [asAddr, Sem.run_pure, Result.andThen_ok, this]
/-- The three boxes of Put and Delete: the table, the prefix, the answer. -/
def PutB (w : World) (l : List Value) (p : Pfx) (W : World) : Prop := Bx W w.heap.size 31 l ∧ Bx W (w.heap.size + 1) 25 p.row ∧ Bx W (w.heap.size + 1 + 1) 31 (tR false false 0 (.slice none 0 0)) ∧ Below w.heap.size w W
theorem PutB.up {w : World} {l : List Value} {p : Pfx} {W W' : World} (h : PutB w l p W) (hb : Below W.heap.size W W') : PutB w l p W' := ⟨h.1.up hb, h.2.1.up hb, h.2.2.1.up hb, below_up h.2.2.2 hb h.2.2.2.size⟩
theorem putB_new (w : World) (l : List Value) (p : Pfx) : PutB w l p (((w.alloc (.cells l.toArray 31)).alloc (.cells p.row.toArray 25)).alloc (.cells (tR false false 0 (.slice none 0 0)).toArray 31)) := by
  have h := twoB_new w 31 25 l p.row
  refine ⟨h.1.al _, h.2.1.al _, ?_, h.2.2.alloc (by simp; omega) _⟩
  have := Bx.new ((w.alloc (.cells l.toArray 31)).alloc (.cells p.row.toArray 25)) 31 (tR false false 0 (.slice none 0 0))
  rwa [World.size_alloc, World.size_alloc] at this
theorem PutB.grown {w : World} {l : List Value} {p : Pfx} {W W' : World} {row : Option Nat} (h : PutB w l p W) (hg : W.grownBy W' row) (hr : ∀ k, row = some k → w.heap.size ≤ k ∧ k ≠ w.heap.size ∧ k ≠ w.heap.size + 1 ∧ k ≠ w.heap.size + 1 + 1) : PutB w l p W' :=
  ⟨(hg.block _ h.1.lt (fun e => (hr _ e.symm).2.1 rfl)).trans h.1, (hg.block _ h.2.1.lt (fun e => (hr _ e.symm).2.2.1 rfl)).trans h.2.1, (hg.block _ h.2.2.1.lt (fun e => (hr _ e.symm).2.2.2 rfl)).trans h.2.2.1, h.2.2.2.grown hg h.2.2.2.size (fun k e => (hr k e).1)⟩
def rputE (is six : Bool) (room : Int) (L : List (Pfx × Int)) (p : Pfx) : Int := if (is && (chkP p && (p.six == six))) = true then (if isT cmpP p L = false ∧ (L.length : Int) = room then 30 else 0) else 1
def rputL (is six : Bool) (room : Int) (L : List (Pfx × Int)) (p : Pfx) (x : Int) : List (Pfx × Int) := if rputE is six room L p = 0 then putT cmpP p x L else L
/-- What is answered: a table by value, and an error. -/
def RefT (w : World) (a0 : Option Addr) (L0 : List (Pfx × Int)) (is six : Bool) (room : Int) (L : List (Pfx × Int)) (c : Int) (e : Ending) (w' : World) : Prop := (∃ a n cap, e = .returned (.tuple #[tV is six room (.slice a n cap), .int .i64 c]) ∧ IsC itF 19 w' (.slice a n cap) L ∧ ((a = a0 ∧ L = L0) ∨ ∀ x, a = some x → w.heap.size ≤ x.block)) ∧ Below w.heap.size w w'
set_option maxRecDepth 100000 in
set_option maxHeartbeats 8000000 in
theorem qput_no (is six : Bool) (room : Int) (a : Option Addr) (n cap : Nat) (L : List (Pfx × Int)) (p : Pfx) (x : Int) (w : World) (hC : IsC itF 19 w (.slice a n cap) L) (hp : p.addr.length = 16) (hr : (is && (chkP p && (p.six == six))) = false) :
    Calls Try.prog 33 #[tV is six room (.slice a n cap), p.val, .int .i64 x] w (RefT w a L is six room L 1) := by
  have HZ := Lib.hid (putB_new w (tR is six room (.slice a n cap)) p)
  have HR := Lib.hid (fun W => qright is six room (.slice a n cap) p W hp)
  rw [hr] at HR
  have ez : (#[.bool false, .bool false, .int .i64 0, .slice none 0 0] : Array Value) = (tR false false 0 (.slice none 0 0)).toArray := rfl
  have HP := Lib.hid hp
  have HC := Lib.hid hC
  have R1 := Lib.hid (rangeAll HZ.out.1)
  have R2 := Lib.hid (rangeAll HZ.out.2.1)
  unfold RefT
  rw [show tV is six room (.slice a n cap) = .agg (tR is six room (.slice a n cap)).toArray from rfl, show p.val = .agg p.row.toArray from rfl]
  clear hp hC
  go_enter Try.func33, Try.ntmps33
  go_wp2_with (first
    | (refine plV rfl (tV is six room (.slice a n cap)) (exec_load_any _ (.tmp 3) rfl w.heap.size 0 (tR is six room (.slice a n cap)) _ rfl R1.out Try.underlying31 rfl t_info) ?_)
    | (refine plV rfl p.val (exec_load_any _ (.tmp 4) rfl (w.heap.size + 1) 0 p.row _ rfl R2.out Try.underlying25 rfl (pf_infoC HP.out)) ?_)
    | (go_at_call 55; refine (HR.out _).mono ?_; rintro e w1 ⟨rfl, b1⟩; refine Hid.out ?_))
  refine Lib.hid ?_
  have z1 := HZ.out.up b1
  have R3 := Lib.hid (rangeAll z1.1)
  have HZ1 := Lib.hid z1
  clear z1 HZ R1 R2 b1
  go_wp2_with (first
    | (refine plV rfl (tV is six room (.slice a n cap)) (exec_load_any _ (.tmp 3) rfl w.heap.size 0 (tR is six room (.slice a n cap)) _ rfl R3.out Try.underlying31 rfl t_info) ?_)
    | (refine wpList_store_bx rfl 31 (.tmp 6) (.tmp 17) rfl (w.heap.size + 1 + 1) (tR is six room (.slice a n cap)) (tR false false 0 (.slice none 0 0)) rfl rfl HZ1.out.2.2.1 t_info rfl (t_one _ _ _ _ rfl) ?_; refine Hid.out ?_))
  refine Lib.hid ?_
  go_wp2
  have hb := below_row HZ1.out.2.2.2 (show w.heap.size ≤ w.heap.size + 1 + 1 by omega) (tR is six room (.slice a n cap)).toArray
  exact bodyPost_ret (results_t2 Try.results33 _ _ (w.heap.size + 1 + 1) (tR is six room (.slice a n cap)) rfl rfl (HZ1.out.2.2.1.row _)) rfl ⟨⟨a, n, cap, rfl, HC.out.below hb, .inl ⟨rfl, by trivial⟩⟩, hb⟩
end Go.Proofs.Ytgimcapcnidjjaa

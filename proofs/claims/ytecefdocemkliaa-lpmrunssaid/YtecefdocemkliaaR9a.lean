/- The document's table of stage 9: where a prefix stands in a row; whether one may be of a table. -/
import Derived.Test.YtecefdocemkliaaAw9
import Derived.Test.YtecefdocemkliaaRp2
namespace Go.Proofs.Ytecefdocemkliaa
open Go Go.RowKit

theorem find_at {p : Pfx} : ∀ (L : List (Pfx × Int)) (j : Nat) (x : Pfx × Int), (∀ i y, i < j → L[i]? = some y → cmpP y.1 p < 0) → L[j]? = some x → ¬ cmpP x.1 p < 0 → idxT cmpP p L = j ∧ isT cmpP p L = decide (cmpP x.1 p = 0)
  | [], j, x, _, h, _ => by simp at h
  | y :: L, 0, x, _, h, hx => by
    cases h
    unfold idxT isT
    rw [if_neg hx, if_neg hx]
    exact ⟨rfl, rfl⟩
  | y :: L, j + 1, x, hl, h, hx => by
    obtain ⟨e1, e2⟩ := find_at L j x (fun i z hi hz => hl (i + 1) z (by omega) hz) h hx
    have h0 := hl 0 y (by omega) rfl
    unfold idxT isT
    rw [if_pos h0, if_pos h0, e1, e2]
    exact ⟨by omega, rfl⟩
theorem find_end {p : Pfx} : ∀ (L : List (Pfx × Int)), (∀ i y, i < L.length → L[i]? = some y → cmpP y.1 p < 0) → idxT cmpP p L = L.length ∧ isT cmpP p L = false
  | [], _ => ⟨rfl, rfl⟩
  | y :: L, hl => by
    obtain ⟨e1, e2⟩ := find_end L (fun i z hi hz => hl (i + 1) z (by simpa using hi) hz)
    have h0 := hl 0 y (by simp) rfl
    unfold idxT isT
    rw [if_pos h0, if_pos h0, e1, e2]
    exact ⟨by simp, rfl⟩
def HeldF (b0 : Nat) (l : List Value) (b k : Nat) (m : List Value) (W : World) : Prop := Bx W b0 32 l ∧ W.rangeAt b k m
/-- What find keeps. -/
def FindZ (w : World) (p : Pfx) (v : Value) (L : List (Pfx × Int)) (W : World) : Prop := Bx W w.heap.size 32 p.row ∧ IsC itF 19 W v L ∧ Below w.heap.size w W
theorem FindZ.up {w : World} {p : Pfx} {v : Value} {L : List (Pfx × Int)} {W W' : World} (h : FindZ w p v L W) (hb : Below W.heap.size W W') : FindZ w p v L W' := ⟨h.1.up hb, h.2.1.below hb, below_up h.2.2 hb h.2.2.size⟩
theorem isC_drew {v : Value} {L : List (Pfx × Int)} {W : World} (h : IsC itF 19 W v L) : IsC itF 19 W.drew v L := h.below (Below.refl _ _).drew
theorem isC_at {W : World} {a : Option Addr} {n cap : Nat} {L : List (Pfx × Int)} (h : IsC itF 19 W (.slice a n cap) L) (j : Nat) (x : Pfx × Int) (hx : L[j]? = some x) : ∃ b k, a = some ⟨b, k, none⟩ ∧ b < W.heap.size ∧ W.rangeAt b (k + j * 19) (itF x) := by
  obtain ⟨_, _, _, h3⟩ := h.shape
  have hlt := (List.getElem?_eq_some_iff.1 hx).1
  obtain ⟨b, k, rfl, hb, hr⟩ := h3 (by omega)
  exact ⟨b, k, rfl, hb, flat_range h.1 hr j x hx⟩
theorem itF_addr {x : Pfx × Int} (h : (itF x).length = 19) : x.1.addr.length = 16 := by
  unfold itF itR Pfx.row at h
  simp [byteVals_length] at h
  exact h
theorem range_pre {W : World} {b k : Nat} {x : Pfx × Int} (h : W.rangeAt b k (itF x)) : W.rangeAt b k x.1.row := fun j v hv => by
  refine h j v ?_
  unfold itF itR
  rw [List.getElem?_append_left (List.getElem?_eq_some_iff.1 hv).1]
  exact hv
set_option maxRecDepth 100000 in
set_option maxHeartbeats 8000000 in
theorem qfind (a : Option Addr) (n cap : Nat) (L : List (Pfx × Int)) (p : Pfx) (w : World) (hC : IsC itF 19 w (.slice a n cap) L) (hp : p.addr.length = 16) (hl : L.length ≤ 1000000) :
    Calls Try.prog 25 #[.slice a n cap, p.val] w fun e w' => e = .returned (.tuple #[.int .i64 (idxT cmpP p L : Nat), .bool (isT cmpP p L)]) ∧ Below w.heap.size w w' := by
  obtain ⟨rfl, hcap, hcm, _⟩ := hC.shape
  have hb : Below w.heap.size w (w.alloc (.cells p.row.toArray 32)) := (Below.refl _ _).alloc (Nat.le_refl _) _
  have HZ := Lib.hid (show FindZ w p (.slice a L.length cap) L _ from ⟨Bx.new w _ p.row, hC.below hb, hb⟩)
  have HP := Lib.hid hp
  have HOK := Lib.hid hC.1
  unfold maxLen at hcm
  rw [show p.val = .agg p.row.toArray from rfl]
  clear hC hp hb
  go_enter Try.func25, Try.ntmps25
  go_wp2
  go_loopw [6] (fun r wr => ∃ j : Nat, j ≤ L.length ∧ r = .int .i64 (j : Int) ∧ (∀ i y, i < j → L[i]? = some y → cmpP y.1 p < 0) ∧ FindZ w p (.slice a L.length cap) L wr) (fun r _ => L.length - (intOf r).toNat)
  case atStart => exact ⟨0, by omega, rfl, fun i y hi => by omega, HZ.out⟩
  case round =>
    obtain ⟨j, hj, rfl, hpre, hz⟩ := hrel
    clear HZ
    by_cases hje : j = L.length
    · subst hje
      have hfe := find_end L hpre
      have HFE := Lib.hid hfe
      have HZ := Lib.hid hz
      clear hpre hz hfe
      go_wp2_with fail
      refine wp_region_noPanic ?_
      refine wp_region_held_drew (S := HeldN) (by kernel_rfl) trivial (fun hHeld => ?_)
      refine held_take (v := ?v74) 0 rfl (by kernel_rfl) (by kernel_rfl) (by kernel_rfl) (fun _ _ _ h => h) (by rfl) ?y74 (by assumption) ?_
      case y74 => (intro w hSw; unfold HeldN at hSw; go_simp; (try with_reducible rfl); (try omega))
      simp only [List.setIfInBounds_toArray, List.set_cons_zero, List.set_cons_succ]
      refine held_take (v := ?v77) 1 rfl (by kernel_rfl) (by kernel_rfl) (by kernel_rfl) (fun _ _ _ h => h) (by rfl) ?y77 (by assumption) ?_
      case y77 => (intro w hSw; unfold HeldN at hSw; go_simp; (try with_reducible rfl); (try omega))
      simp only [List.setIfInBounds_toArray, List.set_cons_zero, List.set_cons_succ]
      refine held_take (v := ?v80) 2 rfl (by kernel_rfl) (by kernel_rfl) (by kernel_rfl) (fun _ _ _ h => h) (by rfl) ?y80 (by assumption) ?_
      case y80 => (intro w hSw; unfold HeldN at hSw; go_simp; (try with_reducible rfl); (try omega))
      simp only [List.setIfInBounds_toArray, List.set_cons_zero, List.set_cons_succ]
      refine held_take (v := ?v83) 3 rfl (by kernel_rfl) (by kernel_rfl) (by kernel_rfl) (fun _ _ _ h => h) (by rfl) ?y83 (by assumption) ?_
      case y83 => (intro w hSw; unfold HeldN at hSw; go_simp; (try with_reducible rfl); (try omega))
      simp only [List.setIfInBounds_toArray, List.set_cons_zero, List.set_cons_succ]
      (try rw [decide_eq_false (show ¬ ((L.length : Int) < (L.length : Int)) by omega)])
      refine held_take (v := ?v87) 4 rfl (by kernel_rfl) (by kernel_rfl) (by kernel_rfl) (fun _ _ _ h => h) (by rfl) ?y87 (by assumption) ?_
      case y87 => (intro w hSw; unfold HeldN at hSw; go_simp; (try with_reducible rfl); (try omega))
      simp only [List.setIfInBounds_toArray, List.set_cons_zero, List.set_cons_succ]
      refine held_skip 5 rfl (by kernel_rfl) (by kernel_rfl) (by kernel_rfl) (fun _ _ _ h => h) (by rfl) (by assumption) ?_
      simp only [List.setIfInBounds_toArray, List.set_cons_zero, List.set_cons_succ]
      refine held_skip 6 rfl (by kernel_rfl) (by kernel_rfl) (by kernel_rfl) (fun _ _ _ h => h) (by rfl) (by assumption) ?_
      simp only [List.setIfInBounds_toArray, List.set_cons_zero, List.set_cons_succ]
      refine held_skip 7 rfl (by kernel_rfl) (by kernel_rfl) (by kernel_rfl) (fun _ _ _ h => h) (by rfl) (by assumption) ?_
      simp only [List.setIfInBounds_toArray, List.set_cons_zero, List.set_cons_succ]
      refine held_skip 8 rfl (by kernel_rfl) (by kernel_rfl) (by kernel_rfl) (fun _ _ _ h => h) (by rfl) (by assumption) ?_
      simp only [List.setIfInBounds_toArray, List.set_cons_zero, List.set_cons_succ]
      refine held_skip 9 rfl (by kernel_rfl) (by kernel_rfl) (by kernel_rfl) (fun _ _ _ h => h) (by rfl) (by assumption) ?_
      simp only [List.setIfInBounds_toArray, List.set_cons_zero, List.set_cons_succ]
      refine held_skip 10 rfl (by kernel_rfl) (by kernel_rfl) (by kernel_rfl) (fun _ _ _ h => h) (by rfl) (by assumption) ?_
      simp only [List.setIfInBounds_toArray, List.set_cons_zero, List.set_cons_succ]
      refine held_skip 11 rfl (by kernel_rfl) (by kernel_rfl) (by kernel_rfl) (fun _ _ _ h => h) (by rfl) (by assumption) ?_
      simp only [List.setIfInBounds_toArray, List.set_cons_zero, List.set_cons_succ]
      refine held_skip 12 rfl (by kernel_rfl) (by kernel_rfl) (by kernel_rfl) (fun _ _ _ h => h) (by rfl) (by assumption) ?_
      simp only [List.setIfInBounds_toArray, List.set_cons_zero, List.set_cons_succ]
      refine held_take (v := ?v106) 13 rfl (by kernel_rfl) (by kernel_rfl) (by kernel_rfl) (fun _ _ _ h => h) (by rfl) ?y106 (by assumption) ?_
      case y106 => (intro w hSw; unfold HeldN at hSw; go_simp; (try with_reducible rfl); (try omega))
      simp only [List.setIfInBounds_toArray, List.set_cons_zero, List.set_cons_succ]
      refine wpAnyH_done (by kernel_rfl) ?_ _
      refine NoPanic.normal ?_
      go_wp2
      refine wp_region_noPanic ?_
      refine wp_region_held_drew (S := HeldN) (by kernel_rfl) trivial (fun hHeld => ?_)
      refine held_take (v := ?v114) 0 rfl (by kernel_rfl) (by kernel_rfl) (by kernel_rfl) (fun _ _ _ h => h) (by rfl) ?y114 (by assumption) ?_
      case y114 => (intro w hSw; unfold HeldN at hSw; go_simp; (try with_reducible rfl); (try omega))
      simp only [List.setIfInBounds_toArray, List.set_cons_zero, List.set_cons_succ]
      refine held_take (v := ?v117) 1 rfl (by kernel_rfl) (by kernel_rfl) (by kernel_rfl) (fun _ _ _ h => h) (by rfl) ?y117 (by assumption) ?_
      case y117 => (intro w hSw; unfold HeldN at hSw; go_simp; (try with_reducible rfl); (try omega))
      simp only [List.setIfInBounds_toArray, List.set_cons_zero, List.set_cons_succ]
      refine held_take (v := ?v120) 2 rfl (by kernel_rfl) (by kernel_rfl) (by kernel_rfl) (fun _ _ _ h => h) (by rfl) ?y120 (by assumption) ?_
      case y120 => (intro w hSw; unfold HeldN at hSw; go_simp; (try with_reducible rfl); (try omega))
      simp only [List.setIfInBounds_toArray, List.set_cons_zero, List.set_cons_succ]
      refine held_take (v := ?v123) 3 rfl (by kernel_rfl) (by kernel_rfl) (by kernel_rfl) (fun _ _ _ h => h) (by rfl) ?y123 (by assumption) ?_
      case y123 => (intro w hSw; unfold HeldN at hSw; go_simp; (try with_reducible rfl); (try omega))
      simp only [List.setIfInBounds_toArray, List.set_cons_zero, List.set_cons_succ]
      refine held_take (v := ?v126) 4 rfl (by kernel_rfl) (by kernel_rfl) (by kernel_rfl) (fun _ _ _ h => h) (by rfl) ?y126 (by assumption) ?_
      case y126 => (intro w hSw; unfold HeldN at hSw; go_simp; (try with_reducible rfl); (try omega))
      simp only [List.setIfInBounds_toArray, List.set_cons_zero, List.set_cons_succ]
      (try rw [decide_eq_false (show ¬ ((L.length : Int) < (L.length : Int)) by omega)])
      refine held_take (v := ?v130) 5 rfl (by kernel_rfl) (by kernel_rfl) (by kernel_rfl) (fun _ _ _ h => h) (by rfl) ?y130 (by assumption) ?_
      case y130 => (intro w hSw; unfold HeldN at hSw; go_simp; (try with_reducible rfl); (try omega))
      simp only [List.setIfInBounds_toArray, List.set_cons_zero, List.set_cons_succ]
      refine held_skip 6 rfl (by kernel_rfl) (by kernel_rfl) (by kernel_rfl) (fun _ _ _ h => h) (by rfl) (by assumption) ?_
      simp only [List.setIfInBounds_toArray, List.set_cons_zero, List.set_cons_succ]
      refine held_skip 7 rfl (by kernel_rfl) (by kernel_rfl) (by kernel_rfl) (fun _ _ _ h => h) (by rfl) (by assumption) ?_
      simp only [List.setIfInBounds_toArray, List.set_cons_zero, List.set_cons_succ]
      refine held_skip 8 rfl (by kernel_rfl) (by kernel_rfl) (by kernel_rfl) (fun _ _ _ h => h) (by rfl) (by assumption) ?_
      simp only [List.setIfInBounds_toArray, List.set_cons_zero, List.set_cons_succ]
      refine held_skip 9 rfl (by kernel_rfl) (by kernel_rfl) (by kernel_rfl) (fun _ _ _ h => h) (by rfl) (by assumption) ?_
      simp only [List.setIfInBounds_toArray, List.set_cons_zero, List.set_cons_succ]
      refine held_skip 10 rfl (by kernel_rfl) (by kernel_rfl) (by kernel_rfl) (fun _ _ _ h => h) (by rfl) (by assumption) ?_
      simp only [List.setIfInBounds_toArray, List.set_cons_zero, List.set_cons_succ]
      refine held_skip 11 rfl (by kernel_rfl) (by kernel_rfl) (by kernel_rfl) (fun _ _ _ h => h) (by rfl) (by assumption) ?_
      simp only [List.setIfInBounds_toArray, List.set_cons_zero, List.set_cons_succ]
      refine held_skip 12 rfl (by kernel_rfl) (by kernel_rfl) (by kernel_rfl) (fun _ _ _ h => h) (by rfl) (by assumption) ?_
      simp only [List.setIfInBounds_toArray, List.set_cons_zero, List.set_cons_succ]
      refine held_take (v := ?v147) 13 rfl (by kernel_rfl) (by kernel_rfl) (by kernel_rfl) (fun _ _ _ h => h) (by rfl) ?y147 (by assumption) ?_
      case y147 => (intro w hSw; unfold HeldN at hSw; go_simp; (try with_reducible rfl); (try omega))
      simp only [List.setIfInBounds_toArray, List.set_cons_zero, List.set_cons_succ]
      refine held_take (v := ?v150) 14 rfl (by kernel_rfl) (by kernel_rfl) (by kernel_rfl) (fun _ _ _ h => h) (by rfl) ?y150 (by assumption) ?_
      case y150 => (intro w hSw; unfold HeldN at hSw; go_simp; (try with_reducible rfl); (try omega))
      simp only [List.setIfInBounds_toArray, List.set_cons_zero, List.set_cons_succ]
      refine held_take (v := ?v153) 15 rfl (by kernel_rfl) (by kernel_rfl) (by kernel_rfl) (fun _ _ _ h => h) (by rfl) ?y153 (by assumption) ?_
      case y153 => (intro w hSw; unfold HeldN at hSw; go_simp; (try with_reducible rfl); (try omega))
      simp only [List.setIfInBounds_toArray, List.set_cons_zero, List.set_cons_succ]
      refine wpAnyH_done (by kernel_rfl) ?_ _
      refine NoPanic.normal ?_
      go_wp2
      go_ret2
      refine ⟨by rw [HFE.out.1, HFE.out.2]; rfl, HZ.out.2.2.drew.drew⟩
    · have hlt : j < L.length := by omega
      obtain ⟨x, hx⟩ : ∃ x, L[j]? = some x := ⟨_, List.getElem?_eq_getElem hlt⟩
      obtain ⟨b, k, rfl, hbw, hr⟩ := isC_at hz.2.1 j x hx
      have hx16 : x.1.addr.length = 16 := itF_addr (HOK.out x (List.mem_of_getElem? hx))
      have HX := Lib.hid hx16
      have hi3 : (j : Int) < (L.length : Int) := by omega
      have hr2 := range_pre hr
      have HHF := Lib.hid (fun W (hb : Below wr.heap.size wr W) => (⟨hz.1.up hb, fun i v hv => (hb.cell (p := ⟨b, k + j * 19 + i, none⟩) hbw).trans (hr2 i v hv)⟩ : HeldF w.heap.size p.row b (k + j * 19) x.1.row W))
      have HC := Lib.hid (fun W => qcompare_any x.1 p W hx16 HP.out)
      have HZ := Lib.hid hz
      by_cases hc : cmpP x.1 p < 0
      · have HPRE : Hid (∀ i y, i < j + 1 → L[i]? = some y → cmpP y.1 p < 0) := fun i y hi hy => by
          rcases Nat.lt_or_ge i j with h | h
          · exact hpre i y h hy
          · obtain rfl : i = j := by omega
            rw [hx] at hy; cases hy; exact hc
        clear hpre hz hr hr2 hx16
        generalize cmpP x.1 p = cc at *
        go_wp2_with fail
        refine wp_region_noPanic ?_
        refine wp_region_held_drew (S := HeldF w.heap.size p.row b (k + j * 19) x.1.row) (by kernel_rfl) (HHF.out _ (Below.refl _ _).drew) (fun hHeld => ?_)
        refine held_take (v := ?v182) 0 rfl (by kernel_rfl) (by kernel_rfl) (by kernel_rfl) (fun _ _ _ h => h) (by rfl) ?y182 (by assumption) ?_
        case y182 => (intro w hSw; unfold HeldF at hSw; go_simp; (try with_reducible rfl); (try omega))
        simp only [List.setIfInBounds_toArray, List.set_cons_zero, List.set_cons_succ]
        refine held_take (v := ?v185) 1 rfl (by kernel_rfl) (by kernel_rfl) (by kernel_rfl) (fun _ _ _ h => h) (by rfl) ?y185 (by assumption) ?_
        case y185 => (intro w hSw; unfold HeldF at hSw; go_simp; (try with_reducible rfl); (try omega))
        simp only [List.setIfInBounds_toArray, List.set_cons_zero, List.set_cons_succ]
        refine held_take (v := ?v188) 2 rfl (by kernel_rfl) (by kernel_rfl) (by kernel_rfl) (fun _ _ _ h => h) (by rfl) ?y188 (by assumption) ?_
        case y188 => (intro w hSw; unfold HeldF at hSw; go_simp; (try with_reducible rfl); (try omega))
        simp only [List.setIfInBounds_toArray, List.set_cons_zero, List.set_cons_succ]
        refine held_take (v := ?v191) 3 rfl (by kernel_rfl) (by kernel_rfl) (by kernel_rfl) (fun _ _ _ h => h) (by rfl) ?y191 (by assumption) ?_
        case y191 => (intro w hSw; unfold HeldF at hSw; go_simp; (try with_reducible rfl); (try omega))
        simp only [List.setIfInBounds_toArray, List.set_cons_zero, List.set_cons_succ]
        (try rw [decide_eq_true hi3])
        refine held_take (v := ?v195) 4 rfl (by kernel_rfl) (by kernel_rfl) (by kernel_rfl) (fun _ _ _ h => h) (by rfl) ?y195 (by assumption) ?_
        case y195 => (intro w hSw; unfold HeldF at hSw; go_simp; (try with_reducible rfl); (try omega))
        simp only [List.setIfInBounds_toArray, List.set_cons_zero, List.set_cons_succ]
        refine held_take (v := ?v198) 5 rfl (by kernel_rfl) (by kernel_rfl) (by kernel_rfl) (fun _ _ _ h => h) (by rfl) ?y198 (by assumption) ?_
        case y198 => (intro w hSw; unfold HeldF at hSw; go_simp; (try with_reducible rfl); (try omega))
        simp only [List.setIfInBounds_toArray, List.set_cons_zero, List.set_cons_succ]
        refine held_take (v := ?v201) 6 rfl (by kernel_rfl) (by kernel_rfl) (by kernel_rfl) (fun _ _ _ h => h) (by rfl) ?y201 (by assumption) ?_
        case y201 => (intro w hSw; unfold HeldF at hSw; go_simp; (try with_reducible rfl); (try omega))
        simp only [List.setIfInBounds_toArray, List.set_cons_zero, List.set_cons_succ]
        refine held_take (v := ?v204) 7 rfl (by kernel_rfl) (by kernel_rfl) (by kernel_rfl) (fun _ _ _ h => h) (by rfl) ?y204 (by assumption) ?_
        case y204 => (intro w hSw; unfold HeldF at hSw; go_simp; (try with_reducible rfl); (try omega))
        simp only [List.setIfInBounds_toArray, List.set_cons_zero, List.set_cons_succ]
        refine held_take (v := ?v207) 8 rfl (by kernel_rfl) (by kernel_rfl) (by kernel_rfl) (fun _ _ _ h => h) (by rfl) ?y207 (by assumption) ?_
        case y207 => (intro w hSw; unfold HeldF at hSw; go_simp; (try with_reducible rfl); (try omega))
        simp only [List.setIfInBounds_toArray, List.set_cons_zero, List.set_cons_succ]
        refine held_take (v := x.1.val) 9 rfl (by kernel_rfl) (by kernel_rfl) (by kernel_rfl) (fun _ _ _ h => h) (by rfl) (fun W hSw => exec_load_any _ (.tmp 15) rfl b (k + j * 19) x.1.row _ rfl hSw.2 Try.underlying32 rfl (pf_infoC HX.out)) (by assumption) ?_
        simp only [List.setIfInBounds_toArray, List.set_cons_zero, List.set_cons_succ]
        refine held_take (v := p.val) 10 rfl (by kernel_rfl) (by kernel_rfl) (by kernel_rfl) (fun _ _ _ h => h) (by rfl) (fun W hSw => exec_load_any _ (.tmp 3) rfl w.heap.size 0 p.row _ rfl (rangeAll hSw.1) Try.underlying32 rfl (pf_infoC HP.out)) (by assumption) ?_
        simp only [List.setIfInBounds_toArray, List.set_cons_zero, List.set_cons_succ]
        refine held_one 11 rfl (by kernel_rfl) (by rfl) (fun K hK => ?_)
        go_simp
        refine (HC.out _).mono ?_
        rintro e w1 ⟨rfl, b1⟩
        have hb1 : Below wr.heap.size wr w1 := (Below.refl wr.heap.size wr).drew.trans b1
        have hH1 := HHF.out _ hb1
        refine hK.out _ _ hH1 (fun _ => ?_)
        clear hK K b1
        refine held_take (v := ?v222) 12 rfl (by kernel_rfl) (by kernel_rfl) (by kernel_rfl) (fun _ _ _ h => h) (by rfl) ?y222 (by assumption) ?_
        case y222 => (intro w hSw; unfold HeldF at hSw; go_simp; (try with_reducible rfl); (try omega))
        simp only [List.setIfInBounds_toArray, List.set_cons_zero, List.set_cons_succ]
        (try rw [decide_eq_true hc])
        refine held_take (v := ?v226) 13 rfl (by kernel_rfl) (by kernel_rfl) (by kernel_rfl) (fun _ _ _ h => h) (by rfl) ?y226 (by assumption) ?_
        case y226 => (intro w hSw; unfold HeldF at hSw; go_simp; (try with_reducible rfl); (try omega))
        simp only [List.setIfInBounds_toArray, List.set_cons_zero, List.set_cons_succ]
        refine wpAnyH_done (by kernel_rfl) ?_ _
        refine NoPanic.normal ?_
        have HZ1 := Lib.hid (HZ.out.up hb1)
        clear hHeld hb1 hH1
        go_wp2
        go_roundw
        case rel => exact ⟨j + 1, by omega, by go_num, HPRE.out, HZ1.out⟩
        case measure => simp [intOf]; omega
      · have hfa := find_at L j x hpre hx hc
        have hq : decide (cmpP x.1 p = 0) = eqP x.1 p := by
          rw [Bool.eq_iff_iff, decide_eq_true_iff, eqP_iff]
          exact ⟨fun h => cmpP_zero (hx16.trans HP.out.symm) h, fun h => by rw [h]; exact cmpP_ord.refl p⟩
        rw [hq] at hfa
        have HFA := Lib.hid hfa
        clear hpre hz hr hr2 hx16 hfa hq
        generalize cmpP x.1 p = cc at *
        generalize heq : eqP x.1 p = eb at *
        go_wp2_with fail
        refine wp_region_noPanic ?_
        refine wp_region_held_drew (S := HeldF w.heap.size p.row b (k + j * 19) x.1.row) (by kernel_rfl) (HHF.out _ (Below.refl _ _).drew) (fun hHeld => ?_)
        refine held_take (v := ?v249) 0 rfl (by kernel_rfl) (by kernel_rfl) (by kernel_rfl) (fun _ _ _ h => h) (by rfl) ?y249 (by assumption) ?_
        case y249 => (intro w hSw; unfold HeldF at hSw; go_simp; (try with_reducible rfl); (try omega))
        simp only [List.setIfInBounds_toArray, List.set_cons_zero, List.set_cons_succ]
        refine held_take (v := ?v252) 1 rfl (by kernel_rfl) (by kernel_rfl) (by kernel_rfl) (fun _ _ _ h => h) (by rfl) ?y252 (by assumption) ?_
        case y252 => (intro w hSw; unfold HeldF at hSw; go_simp; (try with_reducible rfl); (try omega))
        simp only [List.setIfInBounds_toArray, List.set_cons_zero, List.set_cons_succ]
        refine held_take (v := ?v255) 2 rfl (by kernel_rfl) (by kernel_rfl) (by kernel_rfl) (fun _ _ _ h => h) (by rfl) ?y255 (by assumption) ?_
        case y255 => (intro w hSw; unfold HeldF at hSw; go_simp; (try with_reducible rfl); (try omega))
        simp only [List.setIfInBounds_toArray, List.set_cons_zero, List.set_cons_succ]
        refine held_take (v := ?v258) 3 rfl (by kernel_rfl) (by kernel_rfl) (by kernel_rfl) (fun _ _ _ h => h) (by rfl) ?y258 (by assumption) ?_
        case y258 => (intro w hSw; unfold HeldF at hSw; go_simp; (try with_reducible rfl); (try omega))
        simp only [List.setIfInBounds_toArray, List.set_cons_zero, List.set_cons_succ]
        (try rw [decide_eq_true hi3])
        refine held_take (v := ?v262) 4 rfl (by kernel_rfl) (by kernel_rfl) (by kernel_rfl) (fun _ _ _ h => h) (by rfl) ?y262 (by assumption) ?_
        case y262 => (intro w hSw; unfold HeldF at hSw; go_simp; (try with_reducible rfl); (try omega))
        simp only [List.setIfInBounds_toArray, List.set_cons_zero, List.set_cons_succ]
        refine held_take (v := ?v265) 5 rfl (by kernel_rfl) (by kernel_rfl) (by kernel_rfl) (fun _ _ _ h => h) (by rfl) ?y265 (by assumption) ?_
        case y265 => (intro w hSw; unfold HeldF at hSw; go_simp; (try with_reducible rfl); (try omega))
        simp only [List.setIfInBounds_toArray, List.set_cons_zero, List.set_cons_succ]
        refine held_take (v := ?v268) 6 rfl (by kernel_rfl) (by kernel_rfl) (by kernel_rfl) (fun _ _ _ h => h) (by rfl) ?y268 (by assumption) ?_
        case y268 => (intro w hSw; unfold HeldF at hSw; go_simp; (try with_reducible rfl); (try omega))
        simp only [List.setIfInBounds_toArray, List.set_cons_zero, List.set_cons_succ]
        refine held_take (v := ?v271) 7 rfl (by kernel_rfl) (by kernel_rfl) (by kernel_rfl) (fun _ _ _ h => h) (by rfl) ?y271 (by assumption) ?_
        case y271 => (intro w hSw; unfold HeldF at hSw; go_simp; (try with_reducible rfl); (try omega))
        simp only [List.setIfInBounds_toArray, List.set_cons_zero, List.set_cons_succ]
        refine held_take (v := ?v274) 8 rfl (by kernel_rfl) (by kernel_rfl) (by kernel_rfl) (fun _ _ _ h => h) (by rfl) ?y274 (by assumption) ?_
        case y274 => (intro w hSw; unfold HeldF at hSw; go_simp; (try with_reducible rfl); (try omega))
        simp only [List.setIfInBounds_toArray, List.set_cons_zero, List.set_cons_succ]
        refine held_take (v := x.1.val) 9 rfl (by kernel_rfl) (by kernel_rfl) (by kernel_rfl) (fun _ _ _ h => h) (by rfl) (fun W hSw => exec_load_any _ (.tmp 15) rfl b (k + j * 19) x.1.row _ rfl hSw.2 Try.underlying32 rfl (pf_infoC HX.out)) (by assumption) ?_
        simp only [List.setIfInBounds_toArray, List.set_cons_zero, List.set_cons_succ]
        refine held_take (v := p.val) 10 rfl (by kernel_rfl) (by kernel_rfl) (by kernel_rfl) (fun _ _ _ h => h) (by rfl) (fun W hSw => exec_load_any _ (.tmp 3) rfl w.heap.size 0 p.row _ rfl (rangeAll hSw.1) Try.underlying32 rfl (pf_infoC HP.out)) (by assumption) ?_
        simp only [List.setIfInBounds_toArray, List.set_cons_zero, List.set_cons_succ]
        refine held_one 11 rfl (by kernel_rfl) (by rfl) (fun K hK => ?_)
        go_simp
        refine (HC.out _).mono ?_
        rintro e w1 ⟨rfl, b1⟩
        have hb1 : Below wr.heap.size wr w1 := (Below.refl wr.heap.size wr).drew.trans b1
        have hH1 := HHF.out _ hb1
        refine hK.out _ _ hH1 (fun _ => ?_)
        clear hK K b1
        refine held_take (v := ?v289) 12 rfl (by kernel_rfl) (by kernel_rfl) (by kernel_rfl) (fun _ _ _ h => h) (by rfl) ?y289 (by assumption) ?_
        case y289 => (intro w hSw; unfold HeldF at hSw; go_simp; (try with_reducible rfl); (try omega))
        simp only [List.setIfInBounds_toArray, List.set_cons_zero, List.set_cons_succ]
        (try rw [decide_eq_false (show ¬ cc < 0 by omega)])
        refine held_take (v := ?v293) 13 rfl (by kernel_rfl) (by kernel_rfl) (by kernel_rfl) (fun _ _ _ h => h) (by rfl) ?y293 (by assumption) ?_
        case y293 => (intro w hSw; unfold HeldF at hSw; go_simp; (try with_reducible rfl); (try omega))
        simp only [List.setIfInBounds_toArray, List.set_cons_zero, List.set_cons_succ]
        refine wpAnyH_done (by kernel_rfl) ?_ _
        refine NoPanic.normal ?_
        have HZ1 := Lib.hid (HZ.out.up hb1)
        have HH1 := Lib.hid (HHF.out _ (below_up hb1 (Below.refl _ _).drew hb1.size))
        clear hHeld hb1 hH1
        go_wp2
        refine wp_region_noPanic ?_
        refine wp_region_held_drew (S := HeldF w.heap.size p.row b (k + j * 19) x.1.row) (by kernel_rfl) HH1.out (fun hHeld => ?_)
        refine held_take (v := ?v304) 0 rfl (by kernel_rfl) (by kernel_rfl) (by kernel_rfl) (fun _ _ _ h => h) (by rfl) ?y304 (by assumption) ?_
        case y304 => (intro w hSw; unfold HeldF at hSw; go_simp; (try with_reducible rfl); (try omega))
        simp only [List.setIfInBounds_toArray, List.set_cons_zero, List.set_cons_succ]
        refine held_take (v := ?v307) 1 rfl (by kernel_rfl) (by kernel_rfl) (by kernel_rfl) (fun _ _ _ h => h) (by rfl) ?y307 (by assumption) ?_
        case y307 => (intro w hSw; unfold HeldF at hSw; go_simp; (try with_reducible rfl); (try omega))
        simp only [List.setIfInBounds_toArray, List.set_cons_zero, List.set_cons_succ]
        refine held_take (v := ?v310) 2 rfl (by kernel_rfl) (by kernel_rfl) (by kernel_rfl) (fun _ _ _ h => h) (by rfl) ?y310 (by assumption) ?_
        case y310 => (intro w hSw; unfold HeldF at hSw; go_simp; (try with_reducible rfl); (try omega))
        simp only [List.setIfInBounds_toArray, List.set_cons_zero, List.set_cons_succ]
        refine held_take (v := ?v313) 3 rfl (by kernel_rfl) (by kernel_rfl) (by kernel_rfl) (fun _ _ _ h => h) (by rfl) ?y313 (by assumption) ?_
        case y313 => (intro w hSw; unfold HeldF at hSw; go_simp; (try with_reducible rfl); (try omega))
        simp only [List.setIfInBounds_toArray, List.set_cons_zero, List.set_cons_succ]
        refine held_take (v := ?v316) 4 rfl (by kernel_rfl) (by kernel_rfl) (by kernel_rfl) (fun _ _ _ h => h) (by rfl) ?y316 (by assumption) ?_
        case y316 => (intro w hSw; unfold HeldF at hSw; go_simp; (try with_reducible rfl); (try omega))
        simp only [List.setIfInBounds_toArray, List.set_cons_zero, List.set_cons_succ]
        (try rw [decide_eq_true hi3])
        refine held_take (v := ?v320) 5 rfl (by kernel_rfl) (by kernel_rfl) (by kernel_rfl) (fun _ _ _ h => h) (by rfl) ?y320 (by assumption) ?_
        case y320 => (intro w hSw; unfold HeldF at hSw; go_simp; (try with_reducible rfl); (try omega))
        simp only [List.setIfInBounds_toArray, List.set_cons_zero, List.set_cons_succ]
        refine held_take (v := ?v323) 6 rfl (by kernel_rfl) (by kernel_rfl) (by kernel_rfl) (fun _ _ _ h => h) (by rfl) ?y323 (by assumption) ?_
        case y323 => (intro w hSw; unfold HeldF at hSw; go_simp; (try with_reducible rfl); (try omega))
        simp only [List.setIfInBounds_toArray, List.set_cons_zero, List.set_cons_succ]
        refine held_take (v := ?v326) 7 rfl (by kernel_rfl) (by kernel_rfl) (by kernel_rfl) (fun _ _ _ h => h) (by rfl) ?y326 (by assumption) ?_
        case y326 => (intro w hSw; unfold HeldF at hSw; go_simp; (try with_reducible rfl); (try omega))
        simp only [List.setIfInBounds_toArray, List.set_cons_zero, List.set_cons_succ]
        refine held_take (v := ?v329) 8 rfl (by kernel_rfl) (by kernel_rfl) (by kernel_rfl) (fun _ _ _ h => h) (by rfl) ?y329 (by assumption) ?_
        case y329 => (intro w hSw; unfold HeldF at hSw; go_simp; (try with_reducible rfl); (try omega))
        simp only [List.setIfInBounds_toArray, List.set_cons_zero, List.set_cons_succ]
        refine held_take (v := ?v332) 9 rfl (by kernel_rfl) (by kernel_rfl) (by kernel_rfl) (fun _ _ _ h => h) (by rfl) ?y332 (by assumption) ?_
        case y332 => (intro w hSw; unfold HeldF at hSw; go_simp; (try with_reducible rfl); (try omega))
        simp only [List.setIfInBounds_toArray, List.set_cons_zero, List.set_cons_succ]
        refine held_take (v := x.1.val) 10 rfl (by kernel_rfl) (by kernel_rfl) (by kernel_rfl) (fun _ _ _ h => h) (by rfl) (fun W hSw => exec_load_any _ (.tmp 32) rfl b (k + j * 19) x.1.row _ rfl hSw.2 Try.underlying32 rfl (pf_infoC HX.out)) (by assumption) ?_
        simp only [List.setIfInBounds_toArray, List.set_cons_zero, List.set_cons_succ]
        refine held_take (v := p.val) 11 rfl (by kernel_rfl) (by kernel_rfl) (by kernel_rfl) (fun _ _ _ h => h) (by rfl) (fun W hSw => exec_load_any _ (.tmp 3) rfl w.heap.size 0 p.row _ rfl (rangeAll hSw.1) Try.underlying32 rfl (pf_infoC HP.out)) (by assumption) ?_
        simp only [List.setIfInBounds_toArray, List.set_cons_zero, List.set_cons_succ]
        refine held_take (v := .bool eb) 12 rfl (by kernel_rfl) (by kernel_rfl) (by kernel_rfl) (fun _ _ _ h => h) (by rfl) (fun W hSw => heq ▸ exec_eql_pfx 33 34 _ rfl x.1 p HX.out HP.out rfl rfl) (by assumption) ?_
        simp only [List.setIfInBounds_toArray, List.set_cons_zero, List.set_cons_succ]
        refine held_take (v := ?v341) 13 rfl (by kernel_rfl) (by kernel_rfl) (by kernel_rfl) (fun _ _ _ h => h) (by rfl) ?y341 (by assumption) ?_
        case y341 => (intro w hSw; unfold HeldF at hSw; go_simp; (try with_reducible rfl); (try omega))
        simp only [List.setIfInBounds_toArray, List.set_cons_zero, List.set_cons_succ]
        refine held_take (v := ?v344) 14 rfl (by kernel_rfl) (by kernel_rfl) (by kernel_rfl) (fun _ _ _ h => h) (by rfl) ?y344 (by assumption) ?_
        case y344 => (intro w hSw; unfold HeldF at hSw; go_simp; (try with_reducible rfl); (try omega))
        simp only [List.setIfInBounds_toArray, List.set_cons_zero, List.set_cons_succ]
        refine held_take (v := ?v347) 15 rfl (by kernel_rfl) (by kernel_rfl) (by kernel_rfl) (fun _ _ _ h => h) (by rfl) ?y347 (by assumption) ?_
        case y347 => (intro w hSw; unfold HeldF at hSw; go_simp; (try with_reducible rfl); (try omega))
        simp only [List.setIfInBounds_toArray, List.set_cons_zero, List.set_cons_succ]
        refine wpAnyH_done (by kernel_rfl) ?_ _
        refine NoPanic.normal ?_
        go_wp2
        go_ret2
        refine ⟨by rw [HFA.out.1, HFA.out.2]; rfl, HZ1.out.2.2.drew⟩
end Go.Proofs.Ytecefdocemkliaa

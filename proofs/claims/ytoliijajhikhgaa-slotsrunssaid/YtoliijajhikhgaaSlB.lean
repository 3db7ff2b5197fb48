/- Package slots: All. -/
import Derived.Test.YtoliijajhikhgaaSlA
namespace Go.Proofs.Ytoliijajhikhgaa
open Go Go.RowKit Go.Shelf
attribute [local go_sem] Oper.semAt_some

theorem own_low13 {w : World} {base : Nat} {e : TypeId} {size n : Nat} {v : Value} {xs : List Value} (h : w.ownsRow base e size v n xs) : ∀ k, v.ownBlock = some k → base ≤ k ∧ k < w.heap.size := by
  intro k hk
  rcases h.2 with ⟨rfl, _⟩ | ⟨g, cap, cur, rfl, h2, hg, _⟩
  · cases hk
  · cases hk
    exact ⟨h2, (Array.getElem?_eq_some_iff.1 hg).1⟩
theorem held_next {sl : List Slt} {j : Nat} {x : Slt} (h : sl[j]? = some x) : heldL (sl.take (j + 1)) = heldL (sl.take j) ++ (if x.h = true then [(x.l, x.v)] else []) := by
  rw [List.take_add_one, heldL_app, h]
  congr 1
  unfold heldL
  cases hx : x.h <;> simp [hx]
theorem held_le (sl : List Slt) : (heldL sl).length ≤ sl.length := by rw [heldL_length]; exact List.countP_le_length
set_option maxRecDepth 100000 in
theorem all_nil (w : World) : Calls Try.prog 16 #[.pointer none] w fun e w' => e = .returned (.slice none 0 0) ∧ w = w' := by
  go_enter Try.func16, Try.ntmps16
  go_wp2
  go_ret
  exact ⟨rfl, rfl⟩
set_option maxRecDepth 100000 in
set_option maxHeartbeats 4000000 in
theorem tall_any {pt g wd room : Nat} {L : List (Int × Int)} (w : World) (h : TbL w pt g wd room L) :
    Calls Try.prog 16 #[.pointer (some ⟨pt, 0, none⟩)] w fun e w' => (∃ v, e = .returned v ∧ IsI13 w' v L) ∧ Below w.heap.size w w' := by
  obtain ⟨sl, hS⟩ := h
  have hlow := hS.m.low
  have hle := hS.le
  have hr9 := hS.r
  have hl9 := hS.m.len
  have hLle : L.length ≤ 131072 := by omega
  have c1 : w.cell? ⟨pt, 1, none⟩ = some (.int .i64 (L.length : Int)) := (hS.m.tb.cell 1).trans rfl
  obtain ⟨ti, hti, htz, hts, htb⟩ := info_parts it_infoF13
  obtain ⟨w1, hm, ho, hgr⟩ := run_makeSlice_owned (P := Try.prog) w w.heap.size 42 45 ti (iV (0, 0)) 2 Try.underlying42 hti htz hts .i64 .i64 L.length (by omega) (by rw [htb]; omega) (by unfold maxLen; omega) (Nat.le_refl _)
  have hb1 : Below w.heap.size w w1 := (Below.refl _ _).grown hgr (Nat.le_refl _) (fun k h => by cases h)
  have HO := Lib.hid ho
  have HB := Lib.hid hb1
  have HS := Lib.hid hS
  have HS1 := Lib.hid (hS.up hb1)
  have hM := HS1.out.m
  have c3 : w1.cell? ⟨pt, 3, none⟩ = some (.slice (some ⟨g, 0, none⟩) sl.length sl.length) := (hM.tb.cell 3).trans rfl
  clear hS ho hgr hb1 hM hle hr9 hl9
  go_enter Try.func16, Try.ntmps16
  go_wp2
  go_loopw [3, 18] (fun vo i wr => ∃ j : Nat, j ≤ sl.length ∧ i = .int .i64 (j : Int) ∧ Hid (wr.ownsRow w.heap.size 45 2 vo (heldL (sl.take j)).length ((heldL (sl.take j)).flatMap iR)) ∧ Hid (Below w.heap.size w wr)) (fun _ i _ => sl.length - (intOf i).toNat)
  case atStart => exact ⟨0, Nat.zero_le _, rfl, HO, HB⟩
  case round =>
    clear HO HB c1 c3 HS1 hm
    obtain ⟨j, hj, rfl, HOW, HBR⟩ := hrel
    by_cases hlt : j < sl.length
    · have hlti : (j : Int) < (sl.length : Int) := by omega
      have h0k : ¬ (j : Int) < 0 := by omega
      obtain ⟨x, hx⟩ : ∃ x, sl[j]? = some x := ⟨sl[j], List.getElem?_eq_getElem hlt⟩
      have hsr := HS.out.up HBR.out
      have HR := Lib.hid (hsr.m.range j x hx)
      have hb2 : Below wr.heap.size wr (wr.alloc (.cells (slR x).toArray 58)) := (Below.refl _ _).alloc (Nat.le_refl _) _
      have HN := Lib.hid (Bx.new wr 58 (slR x))
      have HNX := Lib.hid (held_next hx)
      have HB2 := Lib.hid (below_up HBR.out hb2 HBR.out.size)
      have HO2 := Lib.hid (own_below HOW.out hb2)
      have hlw := HBR.out.size
      have hlen2 : (heldL (sl.take j)).length ≤ 131072 := by have := held_le (sl.take j); rw [List.length_take] at this; omega
      clear hsr hx hb2 HBR HOW
      go_wp2_with (first
        | (refine plV rfl (slV x) (exec_load_any _ (.tmp 20) rfl g (j * 3) (slR x) _ rfl HR.out Try.underlying58 rfl sl_info) ?_)
        | (refine plS rfl (exec_store_fresh _ (.tmp 5) (.tmp 21) rfl (slR x) _ wr.heap.size rfl rfl rfl sl_info rfl (slR_one x)) ?_; refine Hid.out ?_))
      refine Lib.hid ?_
      have hs2 : (wr.alloc (.cells (slR x).toArray 58)).heap.size = wr.heap.size + 1 := by simp
      generalize wr.alloc (.cells (slR x).toArray 58) = w2 at *
      have d2 : w2.cell? ⟨wr.heap.size, 2, none⟩ = some (.bool x.h) := (HN.out.cell 2).trans rfl
      cases hh : x.h with
      | false =>
        rw [hh] at d2
        have HN2 := Lib.hid (show heldL (sl.take (j + 1)) = heldL (sl.take j) by rw [HNX.out, hh]; simp)
        go_wp2
        go_roundw
        case rel => exact ⟨j + 1, hlt, rfl, by rw [HN2.out]; exact HO2, HB2⟩
        case measure => simp only [intOf]; omega
      | true =>
        rw [hh] at d2
        have HN2 := Lib.hid (show heldL (sl.take (j + 1)) = heldL (sl.take j) ++ [(x.l, x.v)] by rw [HNX.out, hh]; simp)
        have HRI := Lib.hid (show w2.rangeAt wr.heap.size 0 (iR (x.l, x.v)) from fun q v hq => by
          have h1 := rangeAll HN.out q v
          have hq2 := (List.getElem?_eq_some_iff.1 hq).1
          exact h1 (by rw [← hq]; match q, hq2 with | 0, _ => rfl | 1, _ => rfl))
        have hb3 : Below w2.heap.size w2 (w2.alloc (.cells (iR (x.l, x.v)).toArray 45)) := (Below.refl _ _).alloc (Nat.le_refl _) _
        have HROW := Lib.hid (own_below HO2.out hb3)
        have HB3 := Lib.hid (below_up HB2.out hb3 HB2.out.size)
        have HBN := Lib.hid (Bx.new w2 45 (iR (x.l, x.v)))
        have hs3 : (w2.alloc (.cells (iR (x.l, x.v)).toArray 45)).heap.size = w2.heap.size + 1 := by simp
        obtain ⟨ti, hti, htz, hts, htb⟩ := info_parts it_infoF13
        clear hb3
        go_wp2_with (first
          | (refine plV rfl (iV (x.l, x.v)) (exec_load_any _ (.tmp 25) rfl wr.heap.size 0 (iR (x.l, x.v)) _ rfl HRI.out Try.underlying45 rfl it_info13) ?_)
          | (refine plV rfl (.slice (some ⟨w2.heap.size, 0, none⟩) 1 1) (exec_one_it (.tmp 26) rfl (x.l, x.v) rfl _ rfl) ?_)
          | (at_builtin; refine wpList_append_own _ rfl _ _ 42 rfl w.heap.size 45 ti (iV (0, 0)) 2 16 Try.underlying42 hti htz hts htb rfl (by decide) _ _ _ rfl HROW.out ⟨w2.heap.size, 0, none⟩ 1 1 (iR (x.l, x.v)) rfl rfl (fun j u hj => World.news_of_block HBN.out j u (by simpa using hj)) (iR_one _) (by unfold maxLen; omega) (by omega) (by omega) ?_; intro v' w9 hown hgr _; refine Hid.out ?_))
        refine Lib.hid ?_
        have HO9 := Lib.hid (show w9.ownsRow w.heap.size 45 2 v' (heldL (sl.take (j + 1))).length ((heldL (sl.take (j + 1))).flatMap iR) by rw [HN2.out]; simpa using hown)
        have HB9 := Lib.hid (HB3.out.grown hgr (by omega) (fun k e => owned_low HROW.out k e))
        clear hown hgr HROW HBN
        go_wp2
        go_roundw
        case rel => exact ⟨j + 1, hlt, rfl, HO9, HB9⟩
        case measure => simp only [intOf]; omega
    · have HJE := Lib.hid (show j = sl.length by omega)
      have hlti : ¬ (j : Int) < (sl.length : Int) := by omega
      have HOE := Lib.hid (show wr.ownsRow w.heap.size 45 2 u3 (heldL sl).length ((heldL sl).flatMap iR) by
        have h9 := HOW.out
        rw [HJE.out, List.take_length] at h9
        exact h9)
      have HSO := Lib.hid (sort13_any w.heap.size u3 (heldL sl) wr HOE.out (by have := held_le sl; omega))
      go_wp2_with (go_at_call 22; refine HSO.out.mono ?_; rintro e w3 ⟨rfl, k, hk1, hk2, hk3, hk4, hk5, hk6, hk7, hk8⟩; refine Hid.out ?_)
      refine Lib.hid ?_
      have HKL := Lib.hid (srt_of (hk1.trans HS.out.p) hk2 HS.out.s)
      have HIK := Lib.hid hk3
      have HB3 := Lib.hid (show Below w.heap.size w w3 from { size := Nat.le_trans HBR.out.size hk4, block := fun i hi => (hk8 i (Nat.lt_of_lt_of_le hi HBR.out.size) (fun e => by have := own_low13 HOE.out i e; omega)).trans (HBR.out.block i hi), os := hk5.trans HBR.out.os, tape := hk6.trans HBR.out.tape, output := hk7.trans HBR.out.output })
      clear hk1 hk2 hk3 hk8 HSO HOE
      go_wp2
      go_ret
      exact ⟨⟨_, rfl, by rw [← HKL.out]; exact HIK.out⟩, HB3.out⟩
end Go.Proofs.Ytoliijajhikhgaa

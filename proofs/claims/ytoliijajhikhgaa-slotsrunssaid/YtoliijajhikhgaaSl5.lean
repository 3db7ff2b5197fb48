/- Package slots: Put. -/
import Derived.Test.YtoliijajhikhgaaSl4
namespace Go.Proofs.Ytoliijajhikhgaa
open Go Go.RowKit Go.Shelf
attribute [local go_sem] Oper.semAt_some

set_option maxRecDepth 100000 in
set_option maxHeartbeats 4000000 in
theorem tput_any {pt g wd room : Nat} {L : List (Int × Int)} (a v : Int) (w : World) (h : TbL w pt g wd room L) :
    Calls Try.prog 9 #[.pointer (some ⟨pt, 0, none⟩), .int .i64 a, .int .i64 v] w fun e w' => e = .returned (.int .i64 (putQ room a v L).1) ∧ TbL w' pt g wd room (putQ room a v L).2 ∧ KpO (OwnT pt g) w w' := by
  obtain ⟨sl, hS⟩ := h
  have HS := Lib.hid hS
  have HC := Lib.hid (check_any pt a w)
  obtain ⟨r, hr⟩ : ∃ r, r = putQ room a v L := ⟨_, rfl⟩
  rw [← hr]
  have HG := Lib.hid (show r = if chk13 a = 0 then (if is13 a L = false ∧ room ≤ L.length then (30, L) else (0, put13 a v L)) else (chk13 a, L) from hr)
  clear hr
  have HF := Lib.hid (find_any a w hS.m hS.free)
  generalize chk13 a = c at HC HG
  have hlow := hS.m.low
  have hrm : room ≤ 131072 := by have := hS.r; have := hS.m.len; omega
  clear hS
  by_cases hc : c = 0
  · subst hc
    have HG0 := Lib.hid (show r = if is13 a L = false ∧ room ≤ L.length then (30, L) else (0, put13 a v L) from HG.out.trans (if_pos rfl))
    clear HG
    go_enter Try.func9, Try.ntmps9
    go_wp2_with (first
      | (go_at_call 18; refine HC.out.mono ?_; rintro e w1 ⟨rfl, rfl⟩)
      | (go_at_call 19; refine HF.out.mono ?_; rintro e w1 ⟨⟨p, b, rfl, f1⟩, b1⟩; refine Hid.out ?_))
    refine Lib.hid ?_
    have HS1 := Lib.hid (HS.out.up b1)
    have HB := Lib.hid b1
    have HR := Lib.hid f1
    have hplt : p < sl.length := HS.out.lt f1
    clear f1 b1 HC HF
    have hM := HS1.out.m
    have c0 : w1.cell? ⟨pt, 0, none⟩ = some (.int .i64 (room : Int)) := (hM.tb.cell 0).trans rfl
    have c1 : w1.cell? ⟨pt, 1, none⟩ = some (.int .i64 (L.length : Int)) := (hM.tb.cell 1).trans rfl
    have c3 : w1.cell? ⟨pt, 3, none⟩ = some (.slice (some ⟨g, 0, none⟩) sl.length sl.length) := (hM.tb.cell 3).trans rfl
    have hx1 : (p : Int) < (sl.length : Int) := by omega
    have hx0 : ¬ (p : Int) < 0 := by omega
    clear hM
    cases b with
    | false =>
      by_cases hf : room ≤ L.length
      · have HI := Lib.hid (show r = (30, L) from HG0.out.trans <| if_pos ⟨HS.out.is HR.out, hf⟩)
        have hge : (L.length : Int) ≥ (room : Int) := by omega
        have hgb : decide ((L.length : Int) ≥ (room : Int)) = true := decide_eq_true hge
        go_wp2
        go_region
        go_wp2
        go_ret
        rw [HI.out]
        exact ⟨rfl, ⟨sl, HS1.out.up (Below.refl _ _).drew⟩, (KpO.below (Below.trans HB.out ((Below.refl _ _).drew.mono HB.out.size)))⟩
      · have HI := Lib.hid (show r = (0, put13 a v L) from HG0.out.trans <| if_neg (fun h => hf h.2))
        have hge : ¬ (L.length : Int) ≥ (room : Int) := by omega
        go_wp2
        go_region
        have HSD := Lib.hid (HS1.out.up (Below.refl _ _).drew)
        have HBD := Lib.hid (show Below w.heap.size w w1.drew from Below.trans HB.out ((Below.refl _ _).drew.mono HB.out.size))
        clear c0 c1 c3
        generalize w1.drew = w2 at *
        have hM := HSD.out.m
        have c1 : w2.cell? ⟨pt, 1, none⟩ = some (.int .i64 (L.length : Int)) := (hM.tb.cell 1).trans rfl
        have c3 : w2.cell? ⟨pt, 3, none⟩ = some (.slice (some ⟨g, 0, none⟩) sl.length sl.length) := (hM.tb.cell 3).trans rfl
        have y1 := hM.tb.frozen 1
        have k1 : IntKind.i64.wrap ((L.length : Int) + 1) = (L.length : Int) + 1 := by simp [IntKind.wrap, IntKind.bits, IntKind.signed]; omega
        have HM2 := Lib.hid (hM.cnt ((L.length : Int) + 1))
        have HTH := Lib.hid (HM2.out.fits hplt)
        have HK := Lib.hid ((KpO.below HBD.out : KpO (OwnT pt g) w w2).trans (KpO.set w2 pt 1 (.int .i64 ((L.length : Int) + 1)) (.inl rfl)))
        clear hM
        go_wp2_with (refine plS rfl (exec_store_midR _ (.tmp 49) (.tmp 48) rfl g (p * 3) (slR ⟨a, v, true⟩) rfl rfl HTH.out sl_info (slR_one _)) ?_; refine Hid.out ?_)
        refine Lib.hid ?_
        go_wp2
        go_ret
        rw [HI.out]
        exact ⟨rfl, ⟨_, HS1.out.putNew HR.out (by omega) (HM2.out.slot hplt ⟨a, v, true⟩)⟩, HK.out.trans (kpo_setCells (.inr rfl) _ _ _)⟩
    | true =>
      have HI := Lib.hid (show r = (0, put13 a v L) from HG0.out.trans <| if_neg (fun h => by have := HS.out.is HR.out; rw [h.1] at this; cases this))
      have HTH := Lib.hid (HS1.out.m.fits hplt)
      go_wp2_with (refine plS rfl (exec_store_midR _ (.tmp 49) (.tmp 48) rfl g (p * 3) (slR ⟨a, v, true⟩) rfl rfl HTH.out sl_info (slR_one _)) ?_; refine Hid.out ?_)
      refine Lib.hid ?_
      go_wp2
      go_ret
      rw [HI.out]
      exact ⟨rfl, ⟨_, HS1.out.putOld HR.out (HS1.out.m.slot hplt ⟨a, v, true⟩)⟩, (KpO.below HB.out).trans (kpo_setCells (.inr rfl) _ _ _)⟩
  · have HI := Lib.hid (show r = (c, L) from HG.out.trans (if_neg hc))
    go_enter Try.func9, Try.ntmps9
    go_wp2_with (go_at_call 18; refine HC.out.mono ?_; rintro e w1 ⟨rfl, rfl⟩)
    go_ret
    rw [HI.out]
    exact ⟨rfl, ⟨sl, HS.out⟩, KpO.refl _ _⟩
end Go.Proofs.Ytoliijajhikhgaa

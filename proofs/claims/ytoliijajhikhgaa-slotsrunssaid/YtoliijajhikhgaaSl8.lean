/- Package slots: Delete. -/
import Derived.Test.YtoliijajhikhgaaSl7
namespace Go.Proofs.Ytoliijajhikhgaa
open Go Go.RowKit Go.Shelf
attribute [local go_sem] Oper.semAt_some

/-- what Delete tells, and what is in the table then -/
def delQ (a : Int) (L : List (Int × Int)) : Int × List (Int × Int) := if chk13 a = 0 then (if is13 a L = true then (0, del13 a L) else (31, L)) else (chk13 a, L)
theorem KpO.wide {O O' : Nat → Prop} {W W' : World} (h : KpO O W W') (hO : ∀ k, O k → O' k) : KpO O' W W' := .of h.size (fun k ho hk => h.all k (fun e => ho (hO k e)) hk) h.os h.tape h.output
set_option maxRecDepth 100000 in
set_option maxHeartbeats 4000000 in
theorem tdel_any {pt g wd room : Nat} {L : List (Int × Int)} (a : Int) (w : World) (h : TbL w pt g wd room L) :
    Calls Try.prog 11 #[.pointer (some ⟨pt, 0, none⟩), .int .i64 a] w fun e w' => e = .returned (.int .i64 (delQ a L).1) ∧ TbL w' pt g wd room (delQ a L).2 ∧ KpO (OwnT pt g) w w' := by
  obtain ⟨sl, hS⟩ := h
  have HS := Lib.hid hS
  have HC := Lib.hid (check_any pt a w)
  obtain ⟨r, hr⟩ : ∃ r, r = delQ a L := ⟨_, rfl⟩
  rw [← hr]
  have HG := Lib.hid (show r = if chk13 a = 0 then (if is13 a L = true then (0, del13 a L) else (31, L)) else (chk13 a, L) from hr)
  clear hr
  have HF := Lib.hid (find_any a w hS.m hS.free)
  generalize chk13 a = c at HC HG
  have hlow := hS.m.low
  have hrm : L.length ≤ 131072 := by have := hS.r; have := hS.m.len; have := hS.le; omega
  clear hS
  by_cases hc : c = 0
  · subst hc
    have HG0 := Lib.hid (show r = if is13 a L = true then (0, del13 a L) else (31, L) from HG.out.trans (if_pos rfl))
    clear HG
    go_enter Try.func11, Try.ntmps11
    go_wp2_with (first
      | (go_at_call 18; refine HC.out.mono ?_; rintro e w1 ⟨rfl, rfl⟩)
      | (go_at_call 19; refine HF.out.mono ?_; rintro e w1 ⟨⟨p, b, rfl, f1⟩, b1⟩; refine Hid.out ?_))
    refine Lib.hid ?_
    have HS1 := Lib.hid (HS.out.up b1)
    have HB := Lib.hid b1
    have HR := Lib.hid f1
    have hplt : p < sl.length := HS.out.lt f1
    clear f1 b1 HC HF
    cases b with
    | false =>
      have HI := Lib.hid (show r = (31, L) from HG0.out.trans (if_neg (by rw [HS.out.is HR.out]; decide)))
      go_wp2
      go_ret
      rw [HI.out]
      exact ⟨rfl, ⟨sl, HS1.out⟩, KpO.below HB.out⟩
    | true =>
      have hi := HS.out.is HR.out
      have HI := Lib.hid (show r = (0, del13 a L) from HG0.out.trans (if_pos hi))
      have hdl := del13_length hi
      obtain ⟨m, hm⟩ : ∃ m, m = (del13 a L).length := ⟨_, rfl⟩
      rw [← hm] at hdl
      have hM := HS1.out.m
      have c1 : w1.cell? ⟨pt, 1, none⟩ = some (.int .i64 (L.length : Int)) := (hM.tb.cell 1).trans rfl
      have y1 := hM.tb.frozen 1
      have k1 : IntKind.i64.wrap ((L.length : Int) - 1) = (m : Int) := by simp [IntKind.wrap, IntKind.bits, IntKind.signed]; omega
      have HM2 := Lib.hid (hM.cnt (m : Int))
      have HK := Lib.hid ((KpO.below HB.out : KpO (OwnT pt g) w w1).trans (KpO.set w1 pt 1 (.int .i64 (m : Int)) (.inl rfl)))
      have HV := Lib.hid (vacate_any p _ HM2.out hplt (HS1.out.vac HR.out))
      have HMM := Lib.hid hm
      have HMD := Lib.hid hdl
      clear hM hm hi hdl
      go_wp2_with (go_at_call 21; refine HV.out.mono ?_; rintro e w2 ⟨⟨v, rfl⟩, h2, hk⟩; refine Hid.out ?_)
      refine Lib.hid ?_
      have HQ := Lib.hid h2
      have HK2 := Lib.hid hk
      clear h2 hk
      go_wp2
      go_ret
      rw [HI.out]
      obtain ⟨sl2, h3, h4, h5⟩ := HQ.out
      exact ⟨rfl, ⟨sl2, by rw [← HMM.out]; exact h3, h4, h5, del13_srt HS.out.s a, by have := HS.out.le; have := HMD.out; rw [← HMM.out]; omega, HS.out.r, HS.out.r1⟩, HK.out.trans (HK2.out.wide (fun k e => .inr e))⟩
  · have HI := Lib.hid (show r = (c, L) from HG.out.trans (if_neg hc))
    go_enter Try.func11, Try.ntmps11
    go_wp2_with (go_at_call 18; refine HC.out.mono ?_; rintro e w1 ⟨rfl, rfl⟩)
    go_ret
    rw [HI.out]
    exact ⟨rfl, ⟨sl, HS.out⟩, KpO.refl _ _⟩
end Go.Proofs.Ytoliijajhikhgaa

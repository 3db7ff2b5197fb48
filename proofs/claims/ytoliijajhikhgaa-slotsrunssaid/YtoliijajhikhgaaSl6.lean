/- Package slots: what a freed place does, along the places behind it: the pure half of vacate and Delete. -/
import Derived.Test.YtoliijajhikhgaaSl4
namespace Go.Proofs.Ytoliijajhikhgaa
open Go

/-- The next place, behind those that were told. -/
theorem pl_at {N h0 : Nat} {hp : 0 < N} (hh : h0 < N) {pre : List (Fin N)} {x : Fin N} (h : (pre ++ [x]) <+: placesF N hp (h0 + 1)) : pre.length < N ∧ x.val = (h0 + 1 + pre.length) % N ∧ (pre.length + 1 < N → x.val = wrp N (h0 + (pre.length + 1))) := by
  obtain ⟨tl, htl⟩ := h
  have hxl : pre.length < N := by
    have h1 := congrArg List.length htl
    rw [placesF_len] at h1
    simp at h1
    omega
  have hx : (placesF N hp (h0 + 1))[pre.length]? = some x := by rw [← htl]; simp
  rw [placesF_get hxl] at hx
  have e : (h0 + 1 + pre.length) % N = x.val := congrArg Fin.val (Option.some.inj hx)
  exact ⟨hxl, e.symm, fun h2 => by rw [← e, show h0 + 1 + pre.length = h0 + (pre.length + 1) by omega, mod_wrp (by omega)]⟩
/-- The hole, and what stands where, behind j places. -/
structure VacJ (wd N h0 : Nat) (R : List (Int × Int)) (sl : List Slt) (hole j : Nat) : Prop where
  vac : ∃ i, hole = wrp N (h0 + i) ∧ Vac (homeI wd) N h0 sl i j
  p : (heldL sl).Perm R
section
variable {wd N h0 hole j x : Nat} {R L : List (Int × Int)} {sl : List Slt} {a : Int} {s : Slt} {W : World} {pt g room : Nat}
theorem VacJ.lt (h : VacJ wd N h0 R sl hole j) : j + 1 < N := by
  obtain ⟨i, _, hv⟩ := h.vac
  obtain ⟨q, h1, h2, _⟩ := hv.stop
  omega
theorem TbS.vac (h : TbS W pt g wd room L sl) {p : Nat} (f : FndR wd sl a p true) : VacJ wd sl.length p (del13 a L) (sl.set p emp) p 0 := by
  obtain ⟨v, hv, hg⟩ := h.get f
  obtain ⟨v0, R, h1, _, h3, h4, _⟩ := put13_old 0 (h.is f)
  rw [hg] at h4
  cases h4
  obtain ⟨q, hq, hf⟩ := h.free
  have hl := h.lt f
  refine ⟨⟨0, ?_, Vac.start h.o hl ⟨q, hq, fun e => ?_, hf⟩⟩, ((heldL_old hv rfl).symm.trans (h.p.trans h1)).cons_inv.trans h3.symm⟩
  · unfold wrp; rw [if_pos (by omega)]; rfl
  · rw [e, heldAt_of hv] at hf; cases hf
theorem VacJ.skip (h : VacJ wd N h0 R sl hole j) (hN : ∀ a, homeI wd a < N) (hx : x = wrp N (h0 + (j + 1))) (ha : sl[x]? = some s) (hs : s.h = true) (hlt : dst N (homeI wd s.l) x < dst N hole x) : VacJ wd N h0 R sl hole (j + 1) := by
  obtain ⟨i, he, hv⟩ := h.vac
  subst hx he
  exact ⟨⟨i, rfl, hv.skip hN ha hs hlt⟩, h.p⟩
theorem VacJ.move (h : VacJ wd N h0 R sl hole j) (hN : ∀ a, homeI wd a < N) (hx : x = wrp N (h0 + (j + 1))) (ha : sl[x]? = some s) (hs : s.h = true) (hge : dst N hole x ≤ dst N (homeI wd s.l) x) : VacJ wd N h0 R ((sl.set hole s).set x emp) x (j + 1) := by
  obtain ⟨i, he, hv⟩ := h.vac
  subst hx he
  refine ⟨⟨j + 1, rfl, hv.move hN ha hs hge⟩, ?_⟩
  have hw : wrp N (h0 + i) < sl.length := by
    rw [hv.len]
    have h1 := h.lt
    have h2 := hv.hi
    have h3 := hv.low
    exact wrp_lt (by omega)
  obtain ⟨u, hu⟩ : ∃ u, sl[wrp N (h0 + i)]? = some u := ⟨_, List.getElem?_eq_getElem hw⟩
  have hf := hv.free
  rw [heldAt_of hu] at hf
  exact (heldL_move hu hf ha hs).trans h.p
theorem VacJ.done (h : VacJ wd N h0 R sl hole j) (hN : ∀ a, homeI wd a < N) (hx : x = wrp N (h0 + (j + 1))) (ha : sl[x]? = some s) (hs : s.h = false) : Opn (homeI wd) sl ∧ (heldL sl).Perm R := by
  obtain ⟨i, _, hv⟩ := h.vac
  subst hx
  exact ⟨hv.done hN (by rw [heldAt_of ha, hs]), h.p⟩
end
end Go.Proofs.Ytoliijajhikhgaa

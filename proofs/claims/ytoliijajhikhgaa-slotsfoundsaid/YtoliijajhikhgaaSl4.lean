/- Package slots: Get, Put. -/
import Derived.Test.YtoliijajhikhgaaSl3
import Derived.Test.YtoliijajhikhgaaMid
namespace Go.Proofs.Ytoliijajhikhgaa
open Go Go.RowKit Go.Shelf
attribute [local go_sem] Oper.semAt_some

/-- A table: its box, its slots; the labels in it, by rising labels. -/
structure TbS (W : World) (pt g wd room : Nat) (L : List (Int × Int)) (sl : List Slt) : Prop where
  m : TbM W pt g wd (room : Int) (L.length : Int) sl
  o : Opn (homeI wd) sl
  p : (heldL sl).Perm L
  s : SrtL L
  le : L.length ≤ room
  r : 2 * room ≤ 2 ^ wd
  r1 : 1 ≤ room
def TbL (W : World) (pt g wd room : Nat) (L : List (Int × Int)) : Prop := ∃ sl, TbS W pt g wd room L sl
section
variable {W W' : World} {pt g wd room p : Nat} {L : List (Int × Int)} {sl : List Slt} {a : Int} {b : Bool}
theorem TbS.up (h : TbS W pt g wd room L sl) (hb : Below W.heap.size W W') : TbS W' pt g wd room L sl := ⟨h.m.up hb, h.o, h.p, h.s, h.le, h.r, h.r1⟩
theorem TbL.up (h : TbL W pt g wd room L) (hb : Below W.heap.size W W') : TbL W' pt g wd room L := by obtain ⟨sl, h⟩ := h; exact ⟨sl, h.up hb⟩
theorem TbS.free (h : TbS W pt g wd room L sl) : ∃ q, q < sl.length ∧ heldAt sl q = false := free_one (by rw [h.p.length_eq, h.m.len]; have := h.le; have := h.r; have := h.r1; omega)
theorem TbS.hm (h : TbS W pt g wd room L sl) (a : Int) : homeI wd a < sl.length := by rw [h.m.len]; exact homeI_lt h.m.w2 a
theorem TbS.lt (_ : TbS W pt g wd room L sl) (f : FndR wd sl a p b) : p < sl.length := by obtain ⟨s, hs, _⟩ := f.at_; exact (List.getElem?_eq_some_iff.1 hs).1
theorem TbS.no (h : TbS W pt g wd room L sl) (f : FndR wd sl a p false) : ∀ (q : Nat) (s : Slt), sl[q]? = some s → s.h = true → s.l ≠ a := by
  refine h.o.miss h.hm (d := dst sl.length (homeI wd a) p) (dst_lt (h.hm a) (h.lt f)) f.way ?_
  obtain ⟨s, hs, hh, _⟩ := f.at_
  rw [wrp_dst (h.hm a) (h.lt f), heldAt_of hs, hh]
theorem TbS.is (h : TbS W pt g wd room L sl) (f : FndR wd sl a p b) : is13 a L = b := by
  cases b with
  | false =>
    rw [Bool.eq_false_iff]
    intro h1
    obtain ⟨v, hv⟩ := (is13_iff h.s).1 h1
    obtain ⟨q, hq⟩ := heldL_mem.1 (h.p.mem_iff.2 hv)
    exact h.no f q _ hq rfl rfl
  | true =>
    obtain ⟨s, hs, hh, hl⟩ := f.at_
    refine (is13_iff h.s).2 ⟨s.v, h.p.mem_iff.1 (heldL_mem.2 ⟨p, ?_⟩)⟩
    rw [hs, ← hl rfl, ← hh]
theorem TbS.get (h : TbS W pt g wd room L sl) (f : FndR wd sl a p true) : ∃ v, sl[p]? = some ⟨a, v, true⟩ ∧ get13 a L = (v, true) := by
  obtain ⟨s, hs, hh, hl⟩ := f.at_
  have h1 : sl[p]? = some ⟨a, s.v, true⟩ := by rw [hs, ← hl rfl, ← hh]
  exact ⟨s.v, h1, get13_of h.s (h.p.mem_iff.1 (heldL_mem.2 ⟨p, h1⟩))⟩
end
/-- what Get tells -/
def getQ (a : Int) (L : List (Int × Int)) : Int × Bool := if chk13 a = 0 then get13 a L else (0, false)
set_option maxRecDepth 100000 in
set_option maxHeartbeats 4000000 in
theorem tget_any {pt g wd room : Nat} {L : List (Int × Int)} (a : Int) (w : World) (h : TbL w pt g wd room L) :
    Calls Try.prog 13 #[.pointer (some ⟨pt, 0, none⟩), .int .i64 a] w fun e w' => e = .returned (.tuple #[.int .i64 (getQ a L).1, .bool (getQ a L).2]) ∧ Below w.heap.size w w' := by
  obtain ⟨sl, hS⟩ := h
  have HS := Lib.hid hS
  have HC := Lib.hid (check_any pt a w)
  have HG := Lib.hid (show getQ a L = if chk13 a = 0 then get13 a L else (0, false) from rfl)
  have HF := Lib.hid (find_any a w hS.m hS.free)
  generalize chk13 a = c at HC HG
  clear hS
  by_cases hc : c = 0
  · subst hc
    rw [HG.out, if_pos rfl]
    clear HG
    go_enter Try.func13, Try.ntmps13
    go_wp2_with (first
      | (go_at_call 18; refine HC.out.mono ?_; rintro e w1 ⟨rfl, rfl⟩)
      | (go_at_call 19; refine HF.out.mono ?_; rintro e w1 ⟨⟨p, b, rfl, f1⟩, b1⟩; refine Hid.out ?_))
    refine Lib.hid ?_
    have HB := Lib.hid b1
    have HR := Lib.hid f1
    have hplt : p < sl.length := HS.out.lt f1
    clear f1 b1 HC HF
    cases b with
    | false =>
      have HG := Lib.hid (is13_none (HS.out.is HR.out))
      go_wp2
      exact bodyPost_ret (v := .tuple #[.int .i64 0, .bool false]) (by simp [results, Try.results13, go_sem]) rfl ⟨by rw [HG.out], HB.out⟩
    | true =>
      obtain ⟨v, hv, hg⟩ := HS.out.get HR.out
      have HG := Lib.hid hg
      have hM := HS.out.m.up HB.out
      have c3 : w1.cell? ⟨pt, 3, none⟩ = some (.slice (some ⟨g, 0, none⟩) sl.length sl.length) := (hM.tb.cell 3).trans rfl
      have hr := hM.range p _ hv
      have e1 : w1.cell? ⟨g, p * 3 + 1, none⟩ = some (.int .i64 v) := hr 1 _ rfl
      have hx1 : (p : Int) < (sl.length : Int) := by omega
      have hx0 : ¬ (p : Int) < 0 := by omega
      clear hM hr hv hg
      go_wp2
      exact bodyPost_ret (v := .tuple #[.int .i64 v, .bool true]) (by simp [results, Try.results13, go_sem]) rfl ⟨by rw [HG.out], HB.out⟩
  · rw [HG.out, if_neg hc]
    clear HG
    go_enter Try.func13, Try.ntmps13
    go_wp2_with (go_at_call 18; refine HC.out.mono ?_; rintro e w1 ⟨rfl, rfl⟩)
    exact bodyPost_ret (v := .tuple #[.int .i64 0, .bool false]) (by simp [results, Try.results13, go_sem]) rfl ⟨rfl, Below.refl _ _⟩
theorem TbM.cnt {W : World} {pt g wd : Nat} {room cnt : Int} {sl : List Slt} (h : TbM W pt g wd room cnt sl) (c : Int) : TbM (W.setCell ⟨pt, 1, none⟩ (.int .i64 c)) pt g wd room c sl :=
  ⟨h.tb.set 1 (.int .i64 c), h.sb.setOther (k := pt) (fun e => h.ne e.symm) 1 _, h.len, h.w1, h.w2⟩
theorem slots_set {sl : List Slt} {p : Nat} (hp : p < sl.length) (x : Slt) : (sl.set p x).flatMap slR = (sl.flatMap slR).take (p * 3) ++ slR x ++ (sl.flatMap slR).drop (p * 3 + (slR x).length) := by
  rw [show p * 3 + (slR x).length = (p + 1) * 3 from by rw [show (slR x).length = 3 from rfl]; omega, flat_take sl (slR_all sl), flat_drop sl (slR_all sl), List.set_eq_take_append_cons_drop, if_pos hp, List.flatMap_append, List.flatMap_cons, List.append_assoc]
theorem TbM.fits {W : World} {pt g wd p : Nat} {room cnt : Int} {sl : List Slt} (h : TbM W pt g wd room cnt sl) (hp : p < sl.length) : W.there g (p * 3) 3 := bx_there h.sb (p * 3) 3 (by rw [cflat_length sl (slR_all sl)]; omega)
theorem TbM.slot {W : World} {pt g wd p : Nat} {room cnt : Int} {sl : List Slt} (h : TbM W pt g wd room cnt sl) (hp : p < sl.length) (x : Slt) : TbM (W.setCells g (p * 3) (slR x)) pt g wd room cnt (sl.set p x) := by
  have hl : (sl.set p x).length = sl.length := List.length_set
  refine ⟨?_, bx_mid h.sb (by rw [cflat_length sl (slR_all sl), show (slR x).length = 3 from rfl]; omega) (slots_set hp x), by rw [hl]; exact h.len, h.w1, h.w2⟩
  rw [hl]
  exact bx_farCells h.ne _ _ _ h.tb
/-- the blocks of a table -/
def OwnT (pt g : Nat) : Nat → Prop := fun k => k = pt ∨ k = g
/-- what Put tells, and what is in the table then -/
def putQ (room : Nat) (a v : Int) (L : List (Int × Int)) : Int × List (Int × Int) := if chk13 a = 0 then (if is13 a L = false ∧ room ≤ L.length then (30, L) else (0, put13 a v L)) else (chk13 a, L)
section
variable {W W' : World} {pt g wd room p : Nat} {L : List (Int × Int)} {sl : List Slt} {a v : Int}
theorem TbS.putNew (h : TbS W pt g wd room L sl) (f : FndR wd sl a p false) (hr : L.length < room) (hm : TbM W' pt g wd (room : Int) ((L.length : Int) + 1) (sl.set p ⟨a, v, true⟩)) : TbS W' pt g wd room (put13 a v L) (sl.set p ⟨a, v, true⟩) := by
  have hi := h.is f
  obtain ⟨s, hs, hh, _⟩ := f.at_
  have hl : (put13 a v L).length = L.length + 1 := by rw [put13_length, if_neg (by rw [hi]; simp)]
  refine ⟨by rw [hl]; exact hm, h.o.put (h.lt f) (by rw [heldAt_of hs, hh]) (h.no f) (fun r hr hd => ?_), ((heldL_new hs hh ⟨a, v, true⟩ rfl).trans (h.p.cons _)).trans (put13_new v hi).symm, put13_srt h.s a v, by omega, h.r, h.r1⟩
  obtain ⟨u, hu⟩ : ∃ u, sl[r]? = some u := ⟨_, List.getElem?_eq_getElem hr⟩
  rw [heldAt_of hu]
  exact (f.way r u hd hu).1
theorem TbS.putOld (h : TbS W pt g wd room L sl) (f : FndR wd sl a p true) (hm : TbM W' pt g wd (room : Int) (L.length : Int) (sl.set p ⟨a, v, true⟩)) : TbS W' pt g wd room (put13 a v L) (sl.set p ⟨a, v, true⟩) := by
  have hi := h.is f
  obtain ⟨v1, hv, hg⟩ := h.get f
  obtain ⟨v0, R, h1, h2, _, h4, _⟩ := put13_old v hi
  have hl : (put13 a v L).length = L.length := by rw [put13_length, if_pos hi]; rfl
  rw [hg] at h4
  cases h4
  exact ⟨by rw [hl]; exact hm, h.o.turn hv, (heldL_turn hv rfl ⟨a, v, true⟩ rfl (h.p.trans h1)).trans h2.symm, put13_srt h.s a v, by have := h.le; omega, h.r, h.r1⟩
end
end Go.Proofs.Ytoliijajhikhgaa

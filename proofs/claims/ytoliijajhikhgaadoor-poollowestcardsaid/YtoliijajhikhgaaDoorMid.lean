/- Cells in the middle of a box: several stored at once. -/
import Derived.Test.YtoliijajhikhgaaDoorBox
namespace Go.Proofs.YtoliijajhikhgaaDoor
open Go Go.RowKit Go.Shelf

theorem below_setCells {n b : Nat} {w : World} (hb : n ≤ b) : ∀ (N : List Value) (k : Nat) (W : World), Below n w W → Below n w (W.setCells b k N)
  | [], _, _, h => h
  | v :: vs, k, _, h => below_setCells hb vs (k + 1) _ (h.setCell (p := ⟨b, k, none⟩) hb v)
theorem bx_farCells {g b : Nat} {t : TypeId} {l : List Value} (hb : g ≠ b) : ∀ (N : List Value) (k : Nat) (W : World), Bx W g t l → Bx (W.setCells b k N) g t l
  | [], _, _, h => h
  | v :: vs, k, W, h => bx_farCells hb vs (k + 1) _ (h.kp (KpO.set (O := fun x => x = b) W b k v rfl) hb)
theorem exec_store_midR {ρ : Operand → Value} {o : Oper} {w : World} (ty : TypeId) (x y : Operand) (ho : o.op = .store ty x y) (b k : Nat) (l : List Value) (hx : ρ x = .pointer (some ⟨b, k, none⟩)) (hy : ρ y = .agg l.toArray)
    (ht : w.there b k l.length) (hi : (Tryd.prog.info? ty).map (·.size) = some l.length) (h1 : ∀ v ∈ l, v.oneCell' = true) :
    (execOp ρ o).run Tryd.prog w = .ok .skip (w.setCells b k l) := by
  unfold execOp
  have := run_storeVar_mid (P := Tryd.prog) w b k ty l.toArray (by simpa using ht) (by simpa using hi) (all_oneCell_toArray h1)
  simp only [ho, hx, hy, Instr.storeAt, Instr.sureAddr, Sem.run_bind, Sem.run_pure, Result.andThen_ok, this]
theorem bx_there {W : World} {g : Nat} {t : TypeId} {l : List Value} (h : Bx W g t l) (k m : Nat) (hk : k + m ≤ l.length) : W.there g k m := fun j hj =>
  ⟨by rw [h.cell, List.getElem?_eq_getElem (by omega)]; rfl, h.frozen _⟩
theorem bx_setCells {g : Nat} {t : TypeId} {C : List Value} : ∀ (N M A : List Value) (W : World), N.length = M.length → Bx W g t (A ++ M ++ C) → Bx (W.setCells g A.length N) g t (A ++ N ++ C)
  | [], M, A, W, hl, h => by
    obtain rfl : M = [] := List.eq_nil_of_length_eq_zero hl.symm
    exact h
  | v :: vs, [], A, W, hl, h => by cases hl
  | v :: vs, m :: ms, A, W, hl, h => by
    have h1 := h.set A.length v
    have e : (A ++ (m :: ms) ++ C).set A.length v = (A ++ [v]) ++ ms ++ C := by
      rw [List.append_assoc, List.set_append_right _ _ (Nat.le_refl _), Nat.sub_self]
      simp
    rw [e] at h1
    have h2 := bx_setCells vs ms (A ++ [v]) _ (by simpa using hl) h1
    rw [List.length_append] at h2
    have e2 : A ++ [v] ++ vs ++ C = A ++ (v :: vs) ++ C := by simp
    rw [e2] at h2
    exact h2
theorem bx_mid {W : World} {g k : Nat} {t : TypeId} {l l' N : List Value} (h : Bx W g t l) (hk : k + N.length ≤ l.length) (e : l' = l.take k ++ N ++ l.drop (k + N.length)) : Bx (W.setCells g k N) g t l' := by
  have hl : l = l.take k ++ (l.drop k).take N.length ++ l.drop (k + N.length) := by
    rw [List.append_assoc, ← List.drop_drop, List.take_append_drop, List.take_append_drop]
  rw [hl] at h
  have := bx_setCells N _ _ W (by rw [List.length_take, List.length_drop]; omega) h
  rw [List.length_take, Nat.min_eq_left (by omega)] at this
  rw [e]
  exact this
theorem kpo_setCells {O : Nat → Prop} {b : Nat} (hb : O b) : ∀ (N : List Value) (k : Nat) (W : World), KpO O W (W.setCells b k N)
  | [], _, W => KpO.refl O W
  | v :: vs, k, W => (KpO.set W b k v hb).trans (kpo_setCells hb vs (k + 1) _)
end Go.Proofs.YtoliijajhikhgaaDoor

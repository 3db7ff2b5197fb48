/- Helpers of stage 9's laws: a script's steps, a row in order. -/
import Derived.Test.YtgimcapcnidjjaaRefA
import Derived.Test.YtgimcapcnidjjaaLiftT
namespace Go.Proofs.Ytgimcapcnidjjaa
open Go Go.RowKit

theorem take_snoc {α : Type} {l : List α} {i : Nat} {x : α} (h : l[i]? = some x) : l.take (i + 1) = l.take i ++ [x] := by
  obtain ⟨hi, rfl⟩ := List.getElem?_eq_some_iff.1 h
  exact List.take_succ_eq_append_getElem hi
/-- One step of a script that came in. -/
theorem step_at {W : World} {a : Option Addr} {n cap : Nat} {l : List Stp} (h : IsC stF 20 W (.slice a n cap) l) (j : Nat) (s : Stp) (hs : l[j]? = some s) (h16 : s.p.addr.length = 16) : ∃ b k, a = some ⟨b, k, none⟩ ∧ b < W.heap.size ∧ W.cell? ⟨b, k + j * 20, none⟩ = some (.int .i64 s.k) ∧ W.rangeAt b (k + j * 20 + 1) s.p.row ∧ W.cell? ⟨b, k + j * 20 + 19, none⟩ = some (.int .i64 s.v) := by
  obtain ⟨_, _, _, h3⟩ := h.shape
  have hlt := (List.getElem?_eq_some_iff.1 hs).1
  obtain ⟨b, k, rfl, hb, hr⟩ := h3 (by omega)
  have hr2 := flat_range h.1 hr j s hs
  refine ⟨b, k, rfl, hb, hr2 0 _ rfl, fun i v hv => ?_, ?_⟩
  · rw [Nat.add_assoc, Nat.add_assoc, ← Nat.add_assoc k]
    refine hr2 (1 + i) v ?_
    unfold stF
    rw [Nat.add_comm 1 i, List.getElem?_cons_succ, List.getElem?_append_left (List.getElem?_eq_some_iff.1 hv).1]
    exact hv
  · refine hr2 19 _ ?_
    unfold stF
    rw [List.getElem?_cons_succ, List.getElem?_append_right (by rw [row_len h16]; omega), row_len h16]
    rfl
theorem look_all_none (a : List UInt8) : ∀ L : List (Pfx × Int), lookT a L = none → ∀ y ∈ L, hasP y.1 a = false
  | [], _, y, hy => by cases hy
  | z :: L, h, y, hy => by
    unfold lookT at h
    cases hl : lookT a L with
    | some u => rw [hl] at h; simp only at h; split at h <;> cases h
    | none =>
      rw [hl] at h
      simp only at h
      have hz : hasP z.1 a = false := by
        cases hh : hasP z.1 a
        · rfl
        · rw [if_pos hh] at h; cases h
      rcases List.mem_cons.1 hy with rfl | hy
      · exact hz
      · exact look_all_none a L hl y hy
theorem own_slice9 {w : World} {base : Nat} {e : TypeId} {size : Nat} {v : Value} {n : Nat} {xs : List Value} (h : w.ownsRow base e size v n xs) : ∃ a c, v = .slice a n c := by
  rcases h.2 with ⟨rfl, rfl⟩ | ⟨g, cap, cur, rfl, _⟩
  · exact ⟨none, 0, rfl⟩
  · exact ⟨_, _, rfl⟩
theorem get_mem_in {six : Bool} : ∀ (L : List (Pfx × Int)), InOrder cmpP (okP six) L → ∀ x ∈ L, getT cmpP x.1 L = some x.2
  | [], _, x, hx => by cases hx
  | y :: L, h, x, hx => by
    rcases List.mem_cons.1 hx with rfl | hx
    · unfold getT
      have h0 := cmpP_ord.refl x.1
      rw [if_neg (by omega), if_pos h0]
    · have hlt := h.head.2 x hx
      unfold getT
      rw [if_pos hlt]
      exact get_mem_in L h.tail x hx
def HeldS (b k : Nat) (m : List Value) (x : Int) (W : World) : Prop := W.rangeAt b (k + 1) m ∧ W.cell? ⟨b, k + 19, none⟩ = some (.int .i64 x)
end Go.Proofs.Ytgimcapcnidjjaa

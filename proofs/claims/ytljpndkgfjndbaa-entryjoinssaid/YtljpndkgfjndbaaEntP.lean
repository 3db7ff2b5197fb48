/- Stacks of entries: their bytes. No conditions. -/
import Derived.Test.YtljpndkgfjndbaaEntM
namespace Go.Proofs.Ytljpndkgfjndbaa
open Go

/-- The last one alone is the bottom. -/
def botL (l : List Ent) : List Ent := l.mapIdx fun i e => e.setB (decide (i + 1 = l.length))
def putBytes (l : List Ent) : List UInt8 := (botL l).flatMap Ent.bytes
/-- The bytes of the first k of them. -/
def putK (l : List Ent) (k : Nat) : List UInt8 := ((botL l).take k).flatMap Ent.bytes
def putC (l : List Ent) : Int := if 16 < l.length then 51 else if l.all Ent.good then 0 else 1
def putR (l : List Ent) : List UInt8 := if putC l = 0 then putBytes l else []
theorem botL_length (l : List Ent) : (botL l).length = l.length := by simp [botL]
theorem botL_get (l : List Ent) (i : Nat) : (botL l)[i]? = (l[i]?).map fun e => e.setB (decide (i + 1 = l.length)) := by simp [botL]
theorem bytes_length (e : Ent) : e.bytes.length = 4 := lowB_length 4 _
theorem flat_length (l : List Ent) : (l.flatMap Ent.bytes).length = 4 * l.length := by
  induction l with
  | nil => rfl
  | cons e l ih => rw [List.flatMap_cons, List.length_append, ih, bytes_length, List.length_cons]; omega
theorem putK_length (l : List Ent) (k : Nat) (h : k ≤ l.length) : (putK l k).length = 4 * k := by
  rw [putK, flat_length, List.length_take, botL_length]; omega
theorem putK_zero (l : List Ent) : putK l 0 = [] := by simp [putK]
theorem putK_succ (l : List Ent) (k : Nat) (e : Ent) (h : l[k]? = some e) : putK l (k + 1) = putK l k ++ (e.setB (decide (k + 1 = l.length))).bytes := by
  have h2 := botL_get l k
  rw [h] at h2
  rw [putK, putK, List.take_add_one, h2]
  simp
theorem putK_all (l : List Ent) : putK l l.length = putBytes l := by
  rw [putK, putBytes, List.take_of_length_le (by rw [botL_length]; exact Nat.le_refl _)]
theorem setB_good (e : Ent) (b : Bool) : (e.setB b).good = e.good := rfl
theorem setB_ok {e : Ent} (h : e.ok) (b : Bool) : (e.setB b).ok := ⟨h.c0, h.c1, h.t0, h.t1⟩
/-- All of the first k may be packed. -/
theorem allGood_take (l : List Ent) (k : Nat) (e : Ent) (h : l[k]? = some e) : (l.take (k + 1)).all Ent.good = ((l.take k).all Ent.good && e.good) := by
  rw [List.take_add_one, h]; simp
theorem all_bad (l : List Ent) (k : Nat) (e : Ent) (h : l[k]? = some e) (hg : e.good = false) : l.all Ent.good = false := by
  rw [List.all_eq_false]
  exact ⟨e, List.mem_of_getElem? h, by simp [hg]⟩
theorem putC_many {l : List Ent} (h : 16 < l.length) : putC l = 51 ∧ putR l = [] := by
  have e1 : putC l = 51 := by unfold putC; rw [if_pos h]
  exact ⟨e1, by unfold putR; rw [e1]; rfl⟩
theorem putC_bad {l : List Ent} (h : ¬ 16 < l.length) (hb : l.all Ent.good = false) : putC l = 1 ∧ putR l = [] := by
  have e1 : putC l = 1 := by unfold putC; rw [if_neg h, hb]; rfl
  exact ⟨e1, by unfold putR; rw [e1]; rfl⟩
theorem putC_good {l : List Ent} (h : ¬ 16 < l.length) (hb : l.all Ent.good = true) : putC l = 0 ∧ putR l = putBytes l := by
  have e1 : putC l = 0 := by unfold putC; rw [if_neg h, hb]; rfl
  exact ⟨e1, by unfold putR; rw [e1]; rfl⟩
end Go.Proofs.Ytljpndkgfjndbaa

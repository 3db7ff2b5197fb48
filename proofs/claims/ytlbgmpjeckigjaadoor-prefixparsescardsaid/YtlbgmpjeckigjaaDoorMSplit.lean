/- Rows of bytes parted at a sign, and joined: of no program. -/
import Derived.Test.YtlbgmpjeckigjaaDoorMath
namespace Go.Proofs.YtlbgmpjeckigjaaDoor
open Go

/-- The parts of l at each d; cur: what the first one has already. -/
def splitF (d : UInt8) : List UInt8 → List UInt8 → List (List UInt8)
  | cur, [] => [cur]
  | cur, b :: l => if b = d then cur :: splitF d [] l else splitF d (cur ++ [b]) l
def joinB (d : UInt8) : List (List UInt8) → List UInt8
  | [] => []
  | [p] => p
  | p :: q :: r => p ++ d :: joinB d (q :: r)
theorem splitF_ne (d : UInt8) : ∀ (l cur : List UInt8), splitF d cur l ≠ []
  | [], cur => by simp [splitF]
  | b :: l, cur => by
    unfold splitF
    split
    · simp
    · exact splitF_ne d l _
theorem splitF_sign (d : UInt8) (cur l : List UInt8) : splitF d cur (d :: l) = cur :: splitF d [] l := by
  rw [splitF, if_pos rfl]
theorem splitF_byte (d b : UInt8) (cur l : List UInt8) (h : b ≠ d) : splitF d cur (b :: l) = splitF d (cur ++ [b]) l := by
  rw [splitF, if_neg h]
theorem splitF_part (d : UInt8) : ∀ (p cur l : List UInt8), (∀ b ∈ p, b ≠ d) → splitF d cur (p ++ l) = splitF d (cur ++ p) l
  | [], cur, l, _ => by simp
  | b :: p, cur, l, h => by
    rw [List.cons_append, splitF_byte d b cur _ (h b (by simp)), splitF_part d p (cur ++ [b]) l (fun x hx => h x (by simp [hx])), List.append_assoc]
    rfl
theorem split_join (d : UInt8) : ∀ (ps : List (List UInt8)), ps ≠ [] → (∀ p ∈ ps, ∀ b ∈ p, b ≠ d) → splitF d [] (joinB d ps) = ps
  | [], h, _ => absurd rfl h
  | [p], _, h => by
    have := splitF_part d p [] [] (h p (by simp))
    rw [List.append_nil, List.nil_append] at this
    show splitF d [] p = [p]
    rw [this, splitF]
  | p :: q :: r, _, h => by
    show splitF d [] (p ++ d :: joinB d (q :: r)) = _
    rw [splitF_part d p [] _ (h p (by simp)), List.nil_append, splitF_sign, split_join d (q :: r) (by simp) (fun x hx => h x (by simp [hx]))]
theorem joinB_cons (d : UInt8) (p : List UInt8) (r : List (List UInt8)) (h : r ≠ []) : joinB d (p :: r) = p ++ d :: joinB d r := by
  cases r with
  | nil => exact absurd rfl h
  | cons q r => rfl
theorem join_split (d : UInt8) : ∀ (l cur : List UInt8), joinB d (splitF d cur l) = cur ++ l
  | [], cur => by simp [splitF, joinB]
  | b :: l, cur => by
    by_cases h : b = d
    · subst h
      rw [splitF_sign, joinB_cons _ _ _ (splitF_ne _ _ _), join_split b l []]
      rfl
    · rw [splitF_byte d b cur l h, join_split d l (cur ++ [b]), List.append_assoc]
      rfl
theorem split_free (d : UInt8) : ∀ (l cur : List UInt8), (∀ b ∈ cur, b ≠ d) → ∀ p ∈ splitF d cur l, ∀ b ∈ p, b ≠ d
  | [], cur, h, p, hp => by
    simp [splitF] at hp
    subst hp
    exact h
  | c :: l, cur, h, p, hp => by
    by_cases hc : c = d
    · subst hc
      rw [splitF_sign] at hp
      rcases List.mem_cons.1 hp with rfl | hp
      · exact h
      · exact split_free c l [] (fun _ hb => by simp at hb) p hp
    · rw [splitF_byte d c cur l hc] at hp
      refine split_free d l (cur ++ [c]) (fun b hb => ?_) p hp
      rcases List.mem_append.1 hb with hb | hb
      · exact h b hb
      · simp at hb; subst hb; exact hc
end Go.Proofs.YtlbgmpjeckigjaaDoor

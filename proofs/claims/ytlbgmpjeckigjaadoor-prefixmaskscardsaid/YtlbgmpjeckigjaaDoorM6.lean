/- Addresses with points, as lists of bytes: what is shown is told again, of no program. -/
import Derived.Test.YtlbgmpjeckigjaaDoorMSplit
import Derived.Test.YtlbgmpjeckigjaaDoorMathDecs
namespace Go.Proofs.YtlbgmpjeckigjaaDoor
open Go

/-- The numbers of four parts, if they are. -/
def dotB (l : List UInt8) : Bool := decide ((splitF 46 [] l).length = 4) && (splitF 46 [] l).all (fun p => numB p 255)
def dotV (l : List UInt8) (i : Nat) : Int := if dotB l then numV ((splitF 46 [] l).getD i []) 255 else 0
def showD (a : List UInt8) : List UInt8 := joinB 46 (a.map fun b => Lib.decDigits b.toNat)
theorem dec_free {l : List UInt8} (h : l.all isDec = true) : ∀ b ∈ l, b ≠ 46 := by
  intro b hb e
  subst e
  have := List.all_eq_true.1 h _ hb
  exact absurd this (by decide)
theorem itoa_free (n : Int) : ∀ b ∈ Lib.itoa n, b ≠ 46 := by
  unfold Lib.itoa
  split
  · intro b hb
    rcases List.mem_cons.1 hb with rfl | hb
    · decide
    · exact dec_free (all_decD _) b hb
  · exact dec_free (all_decD _)
theorem numB_itoa255 (n : Int) : numB (Lib.itoa n) 255 = decide (0 ≤ n ∧ n ≤ 255) := by
  by_cases h0 : 0 ≤ n
  · rw [itoa_nn h0]
    have hv : decV (Lib.decDigits n.toNat) = n := by rw [decV_decD]; omega
    by_cases h1 : n ≤ 255
    · rw [numB_yes (fun e => by have := decD_pos n.toNat; rw [e] at this; simp at this) (lead_decD _) (all_decD _) (by rw [hv]; exact h1)]
      exact (decide_eq_true ⟨h0, h1⟩).symm
    · have := numB_great (l := Lib.decDigits n.toNat) (most := 255) (Lib.decDigits n.toNat).length (by rw [List.take_length, hv]; omega)
      rw [this]
      exact (decide_eq_false (by omega)).symm
  · have : Lib.itoa n = 45 :: Lib.decDigits (-n).toNat ∨ ∃ r, Lib.itoa n = 45 :: r := by
      unfold Lib.itoa
      rw [if_pos (by omega)]
      exact .inr ⟨_, rfl⟩
    obtain ⟨r, hr⟩ : ∃ r, Lib.itoa n = 45 :: r := by
      rcases this with h | h
      · exact ⟨_, h⟩
      · exact h
    rw [hr, numB_sign 0 (by simp) (by simp [byteAt])]
    exact (decide_eq_false (by omega)).symm
theorem numV_itoa255 (n : Int) (h0 : 0 ≤ n) (h1 : n ≤ 255) : numV (Lib.itoa n) 255 = n := by
  rw [numV_yes (by rw [numB_itoa255]; exact decide_eq_true ⟨h0, h1⟩), itoa_nn h0, decV_decD]
  omega
/-- Four numbers with points between. -/
theorem dot_numbers (a b c d : Int) : splitF 46 [] (joinB 46 [Lib.itoa a, Lib.itoa b, Lib.itoa c, Lib.itoa d]) = [Lib.itoa a, Lib.itoa b, Lib.itoa c, Lib.itoa d] := by
  refine split_join 46 _ (by simp) (fun p hp => ?_)
  simp only [List.mem_cons, List.not_mem_nil, or_false] at hp
  rcases hp with rfl | rfl | rfl | rfl <;> exact itoa_free _
theorem dotB_numbers (a b c d : Int) : dotB (joinB 46 [Lib.itoa a, Lib.itoa b, Lib.itoa c, Lib.itoa d]) = (decide (0 ≤ a ∧ a ≤ 255) && (decide (0 ≤ b ∧ b ≤ 255) && (decide (0 ≤ c ∧ c ≤ 255) && decide (0 ≤ d ∧ d ≤ 255)))) := by
  unfold dotB
  rw [dot_numbers]
  simp only [List.length_cons, List.length_nil, List.all_cons, List.all_nil, Bool.and_true, numB_itoa255]
  rfl
/-- A text that is told is what is shown. -/
theorem part_shown {p : List UInt8} (h : numB p 255 = true) : Lib.decDigits (UInt8.ofNat (numV p 255).toNat).toNat = p ∧ 0 ≤ numV p 255 ∧ numV p 255 ≤ 255 := by
  obtain ⟨h0, h1, h2, h3⟩ := numB_parts h
  have hn := decV_nonneg p h2
  rw [numV_yes h]
  refine ⟨?_, hn, h3⟩
  rw [UInt8.toNat_ofNat_of_lt' (show (decV p).toNat < 256 by omega)]
  exact canon h0 h2 h1
theorem dot_shown {l : List UInt8} (h : dotB l = true) : showD [UInt8.ofNat (dotV l 0).toNat, UInt8.ofNat (dotV l 1).toNat, UInt8.ofNat (dotV l 2).toNat, UInt8.ofNat (dotV l 3).toNat] = l := by
  have hd := h
  unfold dotB at h
  rw [Bool.and_eq_true] at h
  have hl := of_decide_eq_true h.1
  have hj := join_split 46 l []
  unfold dotV
  simp only [if_pos hd]
  match hs : splitF 46 [] l, hl with
  | [p, q, r, s], _ =>
    rw [hs] at h hj
    have ha := h.2
    simp only [List.all_cons, List.all_nil, Bool.and_true, Bool.and_eq_true] at ha
    unfold showD
    simp only [List.map_cons, List.map_nil, List.getD_cons_zero, List.getD_cons_succ]
    rw [(part_shown ha.1).1, (part_shown ha.2.1).1, (part_shown ha.2.2.1).1, (part_shown ha.2.2.2).1, hj]
    rfl
/-- What is shown is told. -/
theorem dot_told (a b c d : UInt8) : dotB (showD [a, b, c, d]) = true ∧ dotV (showD [a, b, c, d]) 0 = a.toNat ∧ dotV (showD [a, b, c, d]) 1 = b.toNat ∧ dotV (showD [a, b, c, d]) 2 = c.toNat ∧ dotV (showD [a, b, c, d]) 3 = d.toNat := by
  have hx : ∀ x : UInt8, Lib.decDigits x.toNat = Lib.itoa (x.toNat : Int) := fun x => by rw [itoa_nn (by omega), Int.toNat_natCast]
  have e : showD [a, b, c, d] = joinB 46 [Lib.itoa (a.toNat : Int), Lib.itoa (b.toNat : Int), Lib.itoa (c.toNat : Int), Lib.itoa (d.toNat : Int)] := by
    unfold showD
    simp only [List.map_cons, List.map_nil, hx]
  have ba := UInt8.toNat_lt a
  have bb := UInt8.toNat_lt b
  have bc := UInt8.toNat_lt c
  have bd := UInt8.toNat_lt d
  have hB : dotB (showD [a, b, c, d]) = true := by
    rw [e, dotB_numbers, decide_eq_true (by omega), decide_eq_true (by omega), decide_eq_true (by omega), decide_eq_true (by omega)]
    rfl
  have hv : ∀ i, dotV (showD [a, b, c, d]) i = numV ([Lib.itoa (a.toNat : Int), Lib.itoa (b.toNat : Int), Lib.itoa (c.toNat : Int), Lib.itoa (d.toNat : Int)].getD i []) 255 := fun i => by
    unfold dotV
    rw [if_pos hB, e, dot_numbers]
  refine ⟨hB, ?_, ?_, ?_, ?_⟩
  · rw [hv]; exact numV_itoa255 (a.toNat : Int) (by omega) (by omega)
  · rw [hv]; exact numV_itoa255 (b.toNat : Int) (by omega) (by omega)
  · rw [hv]; exact numV_itoa255 (c.toNat : Int) (by omega) (by omega)
  · rw [hv]; exact numV_itoa255 (d.toNat : Int) (by omega) (by omega)
end Go.Proofs.YtlbgmpjeckigjaaDoor

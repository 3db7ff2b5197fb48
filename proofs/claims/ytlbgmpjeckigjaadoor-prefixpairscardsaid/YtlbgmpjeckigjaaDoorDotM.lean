/- How addresses with points are told and shown, step by step; runes of more bytes than one: of no program. -/
import Derived.Test.YtlbgmpjeckigjaaDoorM6
import Derived.Test.YtlbgmpjeckigjaaDoorOct
import Derived.Lib.ItoaLen
namespace Go.Proofs.YtlbgmpjeckigjaaDoor
open Go

/-- What a part is worth. -/
def valB (p : List UInt8) : UInt8 := UInt8.ofNat (numV p 255).toNat
def fillD (ps : List (List UInt8)) : List UInt8 := ps.map valB ++ List.replicate (4 - ps.length) 0
/-- The address of a text. -/
def dotL (l : List UInt8) : List UInt8 := if dotB l then (splitF 46 [] l).map valB else [0, 0, 0, 0]
theorem dotL_length (l : List UInt8) : (dotL l).length = 4 := by
  unfold dotL
  split
  · rename_i h
    unfold dotB at h
    rw [Bool.and_eq_true] at h
    simp [of_decide_eq_true h.1]
  · rfl
theorem dotL_no {l : List UInt8} (h : dotB l = false) : dotL l = [0, 0, 0, 0] := by unfold dotL; rw [h]; rfl
theorem fillD_length (ps : List (List UInt8)) (h : ps.length ≤ 4) : (fillD ps).length = 4 := by
  simp [fillD]; omega
theorem fillD_set (ps : List (List UInt8)) (p : List UInt8) (h : ps.length < 4) : (fillD ps).set ps.length (valB p) = fillD (ps ++ [p]) := by
  unfold fillD
  have e1 : (ps.map valB).length = ps.length := by simp
  rw [List.set_append, if_neg (by omega), e1, Nat.sub_self, show 4 - ps.length = (4 - (ps.length + 1)) + 1 by omega, List.replicate_succ, List.set_cons_zero, List.map_append, List.append_assoc]
  simp
theorem fillD_full (ps : List (List UInt8)) (h : ps.length = 4) : fillD ps = ps.map valB := by simp [fillD, h]
theorem valB_num {p : List UInt8} (h : numB p 255 = true) : numV p 255 = ((valB p).toNat : Int) := by
  obtain ⟨_, h1, h2⟩ := part_shown h
  unfold valB
  rw [UInt8.toNat_ofNat_of_lt' (show (numV p 255).toNat < 256 by omega)]
  omega
/-- Parts that are known already, and the rest. -/
theorem dot_bad {l p : List UInt8} {ps qs : List (List UInt8)} (h : splitF 46 [] l = ps ++ p :: qs) (hp : numB p 255 = false) : dotB l = false := by
  unfold dotB
  rw [h]
  simp [hp]
theorem dot_many {l : List UInt8} {ps : List (List UInt8)} (h : splitF 46 [] l = ps) (hn : ps.length ≠ 4) : dotB l = false := by
  unfold dotB
  rw [h, decide_eq_false hn]
  rfl
theorem dot_good {l : List UInt8} {ps : List (List UInt8)} (h : splitF 46 [] l = ps) (hn : ps.length = 4) (ha : ps.all (fun p => numB p 255) = true) : dotB l = true ∧ dotL l = fillD ps := by
  have e : dotB l = true := by
    unfold dotB
    rw [h, decide_eq_true hn, ha]
    rfl
  refine ⟨e, ?_⟩
  unfold dotL
  rw [e, h, fillD_full ps hn]
  rfl
theorem dotL_shown {l : List UInt8} (h : dotB l = true) : showD (dotL l) = l := by
  unfold dotL
  rw [if_pos h]
  unfold dotB at h
  rw [Bool.and_eq_true] at h
  unfold showD
  rw [List.map_map]
  have e : (splitF 46 [] l).map ((fun b => Lib.decDigits b.toNat) ∘ valB) = splitF 46 [] l := by
    conv => rhs; rw [← List.map_id (splitF 46 [] l)]
    refine List.map_congr_left fun p hp => ?_
    exact (part_shown (List.all_eq_true.1 h.2 p hp)).1
  rw [e, join_split]
  rfl
theorem valB_dec (x : UInt8) : valB (Lib.decDigits x.toNat) = x := by
  have hx := UInt8.toNat_lt x
  have e : Lib.decDigits x.toNat = Lib.itoa (x.toNat : Int) := by rw [itoa_nn (by omega), Int.toNat_natCast]
  unfold valB
  rw [e, numV_itoa255 _ (by omega) (by omega)]
  simp
theorem dotL_told (a : List UInt8) (h : a.length = 4) : dotB (showD a) = true ∧ dotL (showD a) = a := by
  match a, h with
  | [a, b, c, d], _ =>
    have hB := (dot_told a b c d).1
    refine ⟨hB, ?_⟩
    have hx : ∀ x : UInt8, Lib.decDigits x.toNat = Lib.itoa (x.toNat : Int) := fun x => by rw [itoa_nn (by omega), Int.toNat_natCast]
    have e : showD [a, b, c, d] = joinB 46 [Lib.itoa (a.toNat : Int), Lib.itoa (b.toNat : Int), Lib.itoa (c.toNat : Int), Lib.itoa (d.toNat : Int)] := by
      unfold showD
      simp only [List.map_cons, List.map_nil, hx]
    unfold dotL
    rw [if_pos hB, e, dot_numbers]
    simp only [← hx, List.map_cons, List.map_nil, valB_dec]
/-- The text of an address, part by part. -/
theorem joinB_snoc (d : UInt8) : ∀ (ps : List (List UInt8)) (q : List UInt8), ps ≠ [] → joinB d (ps ++ [q]) = joinB d ps ++ d :: q
  | [], q, h => absurd rfl h
  | [p], q, _ => rfl
  | p :: p2 :: r, q, _ => by
    show p ++ d :: joinB d (p2 :: r ++ [q]) = (p ++ d :: joinB d (p2 :: r)) ++ d :: q
    rw [joinB_snoc d (p2 :: r) q (by simp)]
    simp
theorem showD_one (a : List UInt8) (h : 0 < a.length) : showD (a.take 1) = Lib.itoa (byteAt a 0) := by
  rcases a with _ | ⟨x, a⟩
  · simp at h
  · unfold showD byteAt
    simp only [List.take_succ_cons, List.take_zero, List.map_cons, List.map_nil, joinB, List.getD_cons_zero]
    rw [itoa_nn (by omega), Int.toNat_natCast]
theorem showD_more (a : List UInt8) (k : Nat) (hk : k < a.length) (h0 : 0 < k) : showD (a.take (k + 1)) = showD (a.take k) ++ 46 :: Lib.itoa (byteAt a k) := by
  have e : a.take (k + 1) = a.take k ++ [a.getD k 0] := by
    rw [List.take_add_one]
    simp [List.getD, hk]
  unfold showD
  rw [e, List.map_append, List.map_cons, List.map_nil, joinB_snoc _ _ _ (by
    intro h
    have := congrArg List.length h
    simp only [List.length_map, List.length_take, List.length_nil] at this
    omega)]
  unfold byteAt
  rw [itoa_nn (by omega), Int.toNat_natCast]
theorem joinB_len (d : UInt8) (n : Nat) : ∀ ps : List (List UInt8), (∀ p ∈ ps, p.length ≤ n) → (joinB d ps).length ≤ (n + 1) * ps.length
  | [], _ => by simp [joinB]
  | [p], h => by
    have := h p (by simp)
    simp only [joinB, List.length_cons, List.length_nil, Nat.zero_add, Nat.mul_one]
    omega
  | p :: q :: r, h => by
    have h1 := h p (by simp)
    have h2 := joinB_len d n (q :: r) (fun x hx => h x (by simp [hx]))
    rw [joinB_cons _ _ _ (by simp), List.length_append, List.length_cons, List.length_cons, Nat.mul_succ]
    omega
theorem byte_len (y : Int) (h0 : 0 ≤ y) (h1 : y ≤ 255) : (Lib.itoa y).length ≤ 21 := Lib.itoa_length_le y (by omega) (by omega)
theorem showD_len (a : List UInt8) : (showD a).length ≤ 22 * a.length := by
  have := joinB_len 46 21 (a.map fun b => Lib.decDigits b.toNat) (fun p hp => by
    obtain ⟨b, _, rfl⟩ := List.mem_map.1 hp
    have hb := UInt8.toNat_lt b
    have := byte_len (b.toNat : Int) (by omega) (by omega)
    rwa [itoa_nn (by omega), Int.toNat_natCast] at this)
  rw [List.length_map] at this
  exact this
/-- Bytes behind the first one of a rune that is no point aren't points. -/
theorem get_bang (s : ByteArray) (k : Nat) (h : k < s.size) : (s.get! k).toNat = (s[k]'h).toNat := by
  rcases s with ⟨bs⟩
  exact congrArg UInt8.toNat (getElem!_pos bs k h)
theorem decode_rest (s : ByteArray) (k : Nat) (j : Nat) (h1 : 1 ≤ j) (h2 : j < (Utf8.decode s k).2) : k + j < s.size ∧ 128 ≤ (s.get! (k + j)).toNat := by
  unfold Utf8.decode at h2
  simp only at h2
  have hc : ∀ x : Nat, (x / 64 == 2) = true → 128 ≤ x := fun x hx => by have := (beq_iff_eq.1 hx); omega
  split at h2
  · exact absurd h2 (by simp; omega)
  · split at h2
    · rename_i h
      split at h2
      · simp only [Bool.and_eq_true, decide_eq_true_eq] at h
        obtain rfl : j = 1 := by simp at h2; omega
        exact ⟨h.2.1, hc _ h.2.2⟩
      · exact absurd h2 (by simp; omega)
    · split at h2
      · rename_i h
        split at h2
        · simp only [Bool.and_eq_true, decide_eq_true_eq] at h
          have : j = 1 ∨ j = 2 := by simp at h2; omega
          rcases this with rfl | rfl
          · exact ⟨h.1.2.1, hc _ h.1.2.2⟩
          · exact ⟨h.2.1, hc _ h.2.2⟩
        · exact absurd h2 (by simp; omega)
      · split at h2
        · rename_i h
          split at h2
          · simp only [Bool.and_eq_true, decide_eq_true_eq] at h
            have : j = 1 ∨ j = 2 ∨ j = 3 := by simp at h2; omega
            rcases this with rfl | rfl | rfl
            · exact ⟨h.1.1.2.1, hc _ h.1.1.2.2⟩
            · exact ⟨h.1.2.1, hc _ h.1.2.2⟩
            · exact ⟨h.2.1, hc _ h.2.2⟩
          · exact absurd h2 (by simp; omega)
        · exact absurd h2 (by simp; omega)
/-- A rune that is no sign of one byte takes no such sign: from its place on as many bytes as it has. -/
theorem rune_free (s : ByteArray) (k : Nat) (h : k < s.size) (d : UInt8) (hd : d.toNat < 128) (hb : byteAt s.data.toList k ≠ (d.toNat : Int)) :
    ((Utf8.decode s k).1 : Int) ≠ (d.toNat : Int) ∧ 1 ≤ (Utf8.decode s k).2 ∧ k + (Utf8.decode s k).2 ≤ s.size ∧ ∀ b ∈ (s.data.toList.drop k).take (Utf8.decode s k).2, b ≠ d := by
  have hk := str_at s k h
  have h1 : 1 ≤ (Utf8.decode s k).2 := by
    by_cases hl : (s[k]'h).toNat < 128
    · rw [decode_ascii s k h hl]
      exact Nat.le_refl _
    · exact (decode_high s k h (by omega)).2
  have hw : ∀ j, j < (Utf8.decode s k).2 → k + j < s.size := fun j hj => by
    rcases Nat.eq_zero_or_pos j with rfl | hp
    · exact h
    · exact (decode_rest s k j hp hj).1
  refine ⟨decode_not s k h (fun r => r ≠ (d.toNat : Int)) (fun r hr => by omega) hb, h1, ?_, ?_⟩
  · have := hw ((Utf8.decode s k).2 - 1) (by omega)
    omega
  · intro b hb2 e
    subst e
    obtain ⟨j, hj, hbj⟩ := List.getElem_of_mem hb2
    have hj2 : j < (Utf8.decode s k).2 := by
      have := hj
      simp only [List.length_take] at this
      omega
    have hkj := hw j hj2
    have e : (s[k + j]'hkj) = b := by
      rw [← hbj]
      simp only [List.getElem_take, List.getElem_drop]
      rfl
    rcases Nat.eq_zero_or_pos j with rfl | hp
    · refine hb ?_
      rw [← hk]
      have e0 : (s[k]'h) = b := e
      rw [e0]
    · have := (decode_rest s k j hp hj2).2
      rw [get_bang s _ hkj, e] at this
      omega
end Go.Proofs.YtlbgmpjeckigjaaDoor

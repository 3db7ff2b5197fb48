/- More on addresses with colons: how the library writes a group, where a text is cut, how far groups are read, the longest row of zeros. Of no program. -/
import Derived.Test.YtlbgmpjeckigjaaDoorM7
import Derived.Test.YtlbgmpjeckigjaaDoorDotM
import Derived.Lib.IndexMore
namespace Go.Proofs.YtlbgmpjeckigjaaDoor
open Go

/-! A group as the library writes it. -/
def hexR : Nat → Nat → List UInt8
  | 0, n => [hexDig n]
  | k + 1, n => if n < 16 then [hexDig n] else hexR k (n / 16) ++ [hexDig (n % 16)]
theorem hexR_small (k n : Nat) (h : n < 16) : hexR k n = [hexDig n] := by
  cases k with
  | zero => rfl
  | succ k => unfold hexR; rw [if_pos h]
theorem hexR_great (k n : Nat) (h : ¬ n < 16) : hexR (k + 1) n = hexR k (n / 16) ++ [hexDig (n % 16)] := by
  rw [hexR, if_neg h]
theorem hexR_length : ∀ k n, (hexR k n).length ≤ k + 1 ∧ 1 ≤ (hexR k n).length
  | 0, n => by simp [hexR]
  | k + 1, n => by
    have := hexR_length k (n / 16)
    unfold hexR
    split
    · simp
    · rw [List.length_append, List.length_cons, List.length_nil]; omega
theorem hexDig_zero : ∀ i : Fin 16, hexDig i.val = 48 ↔ i.val = 0 := by decide
theorem hexDig_ne (n : Nat) (h : n < 16) (h0 : n ≠ 0) : ¬ hexDig n = 48 := fun e => h0 ((hexDig_zero ⟨n, h⟩).1 e)
theorem hexG_four (n : Nat) (h : n ≤ 65535) : hexL (lowB 2 n) = [hexDig (n / 4096), hexDig (n / 256 % 16), hexDig (n / 16 % 16), hexDig (n % 16)] := by
  show [hexDig ((UInt8.ofNat (n / 256 ^ 1 % 256)).toNat / 16), hexDig ((UInt8.ofNat (n / 256 ^ 1 % 256)).toNat % 16), hexDig ((UInt8.ofNat (n / 256 ^ 0 % 256)).toNat / 16), hexDig ((UInt8.ofNat (n / 256 ^ 0 % 256)).toNat % 16)] = _
  rw [toNat_ofNat_mod, toNat_ofNat_mod, Nat.pow_one, Nat.pow_zero, Nat.div_one]
  rw [show n / 256 % 256 / 16 = n / 4096 by omega, show n / 256 % 256 % 16 = n / 256 % 16 by omega, show n % 256 / 16 = n / 16 % 16 by omega, show n % 256 % 16 = n % 16 by omega]
theorem hexG_R (n : Nat) (h : n ≤ 65535) : hexG n = hexR 3 n := by
  unfold hexG
  rw [hexG_four n h]
  by_cases h1 : n < 16
  · rw [hexR_small _ _ h1, show n / 4096 = 0 by omega, show n / 256 % 16 = 0 by omega, show n / 16 % 16 = 0 by omega, show n % 16 = n by omega]
    simp [stripZ, show hexDig 0 = 48 from rfl]
  · rw [hexR_great _ _ h1]
    by_cases h2 : n / 16 < 16
    · rw [hexR_small _ _ h2, show n / 4096 = 0 by omega, show n / 256 % 16 = 0 by omega, show n / 16 % 16 = n / 16 by omega]
      simp [stripZ, show hexDig 0 = 48 from rfl, hexDig_ne (n / 16) h2 (by omega)]
    · rw [hexR_great _ _ h2]
      by_cases h3 : n / 16 / 16 < 16
      · rw [hexR_small _ _ h3, show n / 4096 = 0 by omega, show n / 256 % 16 = n / 16 / 16 by omega]
        simp [stripZ, show hexDig 0 = 48 from rfl, hexDig_ne (n / 16 / 16) h3 (by omega)]
      · rw [hexR_great _ _ h3, hexR]
        rw [show n / 16 / 16 / 16 = n / 4096 by omega, show n / 16 / 16 % 16 = n / 256 % 16 by omega]
        simp [stripZ, hexDig_ne (n / 4096) (by omega) (by omega)]

/-! Where a text is cut. -/
theorem index_cc : ∀ l : List UInt8, Lib.index l [58, 58] = match cc l with | some k => (k : Int) | none => -1
  | [] => rfl
  | [a] => by
    simp [Lib.index, cc, List.isPrefixOf]
  | a :: b :: l => by
    have ih := index_cc (b :: l)
    by_cases h : a = 58 ∧ b = 58
    · obtain ⟨rfl, rfl⟩ := h
      simp [Lib.index, cc, List.isPrefixOf]
    · have hp : [58, 58].isPrefixOf (a :: b :: l) = false := by
        simp only [List.isPrefixOf, Bool.and_true]
        rw [Bool.eq_false_iff]
        intro hc
        simp at hc
        exact h ⟨hc.1.symm, hc.2.symm⟩
      rw [Lib.index, hp, cc, if_neg h]
      simp only [Bool.false_eq_true, if_false]
      rw [ih]
      cases hc : cc (b :: l) with
      | none => simp
      | some k =>
        simp only [Option.map_some]
        rw [if_neg (by simp)]
        rfl
theorem cut_some {l : List UInt8} {k : Nat} (h : cc l = some k) : Lib.cut l [58, 58] = (l.take k, l.drop (k + 2), true) := by
  have e := index_cc l
  rw [h] at e
  simp only at e
  unfold Lib.cut
  rw [e, if_pos (by omega), Int.toNat_natCast]
  rfl
theorem cut_none {l : List UInt8} (h : cc l = none) : Lib.cut l [58, 58] = (l, [], false) := by
  have e := index_cc l
  rw [h] at e
  simp only at e
  unfold Lib.cut
  rw [e, if_neg (by omega)]

/-! Groups, read one by one. -/
def grpV (p : List UInt8) : Nat := (grpOf p).getD 0
def grpsV (ps : List (List UInt8)) : List Nat := ps.map grpV
theorem grpsV_length (ps : List (List UInt8)) : (grpsV ps).length = ps.length := by simp [grpsV]
def cap8 : Option (List Nat) → Option (List Nat)
  | some g => if g.length ≤ 8 then some g else none
  | none => none
def readO (l : List UInt8) (last : Bool) : Option (List Nat) := cap8 (rowV l last)
def fill8 (g : List Nat) : List Int := g.map Int.ofNat ++ List.replicate (8 - g.length) 0
def rowI (g : List Nat) : List Int := fill8 g ++ [(g.length : Int)]
def rowI0 : List Int := [0, 0, 0, 0, 0, 0, 0, 0, 0]
def rdV : Option (List Nat) → List Int
  | some g => rowI g
  | none => rowI0
theorem rowI_nil : rowI [] = rowI0 := rfl
theorem fill8_length (g : List Nat) (h : g.length ≤ 8) : (fill8 g).length = 8 := by simp [fill8]; omega
theorem rowI_length (g : List Nat) (h : g.length ≤ 8) : (rowI g).length = 9 := by rw [rowI, List.length_append, fill8_length g h]; rfl
theorem readO_len {l : List UInt8} {last : Bool} {g : List Nat} (h : readO l last = some g) : g.length ≤ 8 ∧ rowV l last = some g := by
  unfold readO at h
  cases hg : rowV l last with
  | none => rw [hg] at h; cases h
  | some g' =>
    rw [hg] at h
    unfold cap8 at h
    simp only at h
    split at h
    · cases h; exact ⟨by assumption, rfl⟩
    · cases h
theorem rdV_length (l : List UInt8) (last : Bool) : (rdV (readO l last)).length = 9 := by
  cases h : readO l last with
  | none => rfl
  | some g => exact rowI_length g (readO_len h).1
theorem rowP_front (last : Bool) : ∀ (ps : List (List UInt8)) (q : List UInt8) (qs : List (List UInt8)), (∀ p ∈ ps, (grpOf p).isSome = true) → rowP last (ps ++ q :: qs) = (rowP last (q :: qs)).map (grpsV ps ++ ·)
  | [], q, qs, _ => by cases h : rowP last (q :: qs) <;> simp [h, grpsV]
  | p :: ps, q, qs, h => by
    have ih := rowP_front last ps q qs (fun x hx => h x (by simp [hx]))
    obtain ⟨n, hn⟩ := Option.isSome_iff_exists.1 (h p (by simp))
    have hv : grpV p = n := by unfold grpV; rw [hn]; rfl
    have key : rowP last (p :: (ps ++ q :: qs)) = (rowP last (ps ++ q :: qs)).map (n :: ·) := by
      cases hp : ps ++ q :: qs with
      | nil => simp at hp
      | cons x xs =>
        rw [rowP, hn]
    rw [List.cons_append, key, ih, Option.map_map]
    congr 1
    funext x
    simp [grpsV, hv]
theorem rowP_longer (last : Bool) : ∀ (ps : List (List UInt8)) (l : List Nat), rowP last ps = some l → ps.length ≤ l.length
  | [], l, _ => Nat.zero_le _
  | [p], l, h => by
    unfold rowP at h
    split at h
    · cases h; simp
    · split at h
      · cases h; simp
      · cases h
  | p :: q :: r, l, h => by
    unfold rowP at h
    split at h
    · cases hr : rowP last (q :: r) with
      | none => rw [hr] at h; cases h
      | some l' =>
        rw [hr] at h
        cases h
        have := rowP_longer last (q :: r) l' hr
        simp only [List.length_cons] at *
        omega
    · cases h
/-- How far a text's groups are read: the parts that are behind, where the next one begins, where it is. -/
structure ColAt (l : List UInt8) (ps : List (List UInt8)) (f k : Nat) : Prop where
  le : f ≤ k
  end' : k ≤ l.length
  many : ps.length ≤ 8
  good : ∀ p ∈ ps, (grpOf p).isSome = true
  parts : splitF 58 [] l = ps ++ splitF 58 ((l.drop f).take (k - f)) (l.drop k)
theorem colAt_zero (l : List UInt8) : ColAt l [] 0 0 := ⟨Nat.le_refl _, Nat.zero_le _, by simp, fun p hp => by simp at hp, by simp⟩
theorem ColAt.skip {l : List UInt8} {ps : List (List UInt8)} {f k n : Nat} (h : ColAt l ps f k) (hn : k + n ≤ l.length) (hf : ∀ b ∈ (l.drop k).take n, b ≠ 58) : ColAt l ps f (k + n) := by
  refine ⟨by have := h.le; omega, hn, h.many, h.good, ?_⟩
  rw [h.parts]
  congr 1
  have e : l.drop k = (l.drop k).take n ++ l.drop (k + n) := by
    rw [← List.drop_drop, List.take_append_drop]
  have e2 : (l.drop f).take (k + n - f) = (l.drop f).take (k - f) ++ (l.drop k).take n := by
    have := h.le
    rw [show k + n - f = (k - f) + n by omega, List.take_add, List.drop_drop, show f + (k - f) = k by omega]
  rw [e2]
  conv => lhs; rw [e]
  exact splitF_part 58 _ _ _ hf
theorem drop_sign58 {l : List UInt8} {k : Nat} (hk : k < l.length) (hb : byteAt l k = 58) : l.drop k = 58 :: l.drop (k + 1) := by
  rw [List.drop_eq_getElem_cons hk]
  congr 1
  unfold byteAt at hb
  rw [List.getD, List.getElem?_eq_getElem hk] at hb
  exact UInt8.toNat_inj.1 (by simp at hb; exact Int.ofNat_inj.1 hb)
theorem ColAt.point {l : List UInt8} {ps : List (List UInt8)} {f k : Nat} (h : ColAt l ps f k) (hk : k < l.length) (hb : byteAt l k = 58) :
    splitF 58 [] l = ps ++ ((l.drop f).take (k - f)) :: splitF 58 [] (l.drop (k + 1)) := by
  rw [h.parts, drop_sign58 hk hb, splitF_sign]
theorem ColAt.next {l : List UInt8} {ps : List (List UInt8)} {f k : Nat} (h : ColAt l ps f k) (hk : k < l.length) (hb : byteAt l k = 58) (hp : ps.length ≠ 8) (hg : (grpOf ((l.drop f).take (k - f))).isSome = true) :
    ColAt l (ps ++ [(l.drop f).take (k - f)]) (k + 1) (k + 1) := by
  refine ⟨Nat.le_refl _, by omega, by have := h.many; simp; omega, fun p hm => ?_, ?_⟩
  · rcases List.mem_append.1 hm with hm | hm
    · exact h.good p hm
    · simp at hm; subst hm; exact hg
  · rw [h.point hk hb]
    simp
theorem ColAt.last {l : List UInt8} {ps : List (List UInt8)} {f : Nat} (h : ColAt l ps f l.length) : splitF 58 [] l = ps ++ [l.drop f] := by
  rw [h.parts, List.drop_length]
  have : (l.drop f).take (l.length - f) = l.drop f := List.take_of_length_le (by simp)
  rw [this, splitF]
theorem rowV_some (l : List UInt8) (last : Bool) (h : l ≠ []) : rowV l last = rowP last (splitF 58 [] l) := by unfold rowV; rw [if_neg h]
theorem readO_of (l : List UInt8) (last : Bool) (h : l ≠ []) (o : Option (List Nat)) (ho : rowP last (splitF 58 [] l) = o) : readO l last = cap8 o := by
  unfold readO
  rw [rowV_some l last h, ho]
theorem ColAt.bad {l : List UInt8} {ps : List (List UInt8)} {f k : Nat} (h : ColAt l ps f k) (last : Bool) (hk : k < l.length) (hb : byteAt l k = 58) (hg : grpOf ((l.drop f).take (k - f)) = none) : readO l last = none := by
  have hl : l ≠ [] := fun e => by subst e; simp at hk
  have hne := splitF_ne 58 (l.drop (k + 1)) []
  rw [readO_of l last hl none]
  · rfl
  rw [h.point hk hb, rowP_front last _ _ _ h.good]
  cases hs : splitF 58 [] (l.drop (k + 1)) with
  | nil => exact absurd hs hne
  | cons x xs => rw [rowP, hg]; rfl
theorem ColAt.nine {l : List UInt8} {ps : List (List UInt8)} {f k : Nat} (h : ColAt l ps f k) (last : Bool) (hk : k < l.length) (hb : byteAt l k = 58) (hp : ps.length = 8) : readO l last = none := by
  have hl : l ≠ [] := fun e => by subst e; simp at hk
  cases hr : rowP last (splitF 58 [] l) with
  | none => exact readO_of l last hl none hr
  | some g =>
    rw [readO_of l last hl _ hr]
    have := rowP_longer last _ _ hr
    rw [h.point hk hb] at this
    simp only [List.length_append, List.length_cons, hp] at this
    unfold cap8
    simp only
    rw [if_neg (by omega)]
theorem ColAt.endG {l : List UInt8} {ps : List (List UInt8)} {f : Nat} (h : ColAt l ps f l.length) (last : Bool) (hl : l ≠ []) (n : Nat) (hg : grpOf (l.drop f) = some n) : readO l last = if ps.length ≤ 7 then some (grpsV ps ++ [n]) else none := by
  have e : rowP last (splitF 58 [] l) = some (grpsV ps ++ [n]) := by
    rw [h.last, rowP_front last _ _ _ h.good, rowP, hg]
    rfl
  rw [readO_of l last hl _ e]
  unfold cap8
  simp only [List.length_append, List.length_cons, List.length_nil, grpsV_length]
  by_cases hp : ps.length ≤ 7
  · rw [if_pos hp, if_pos (by omega)]
  · rw [if_neg hp, if_neg (by omega)]
theorem ColAt.endN {l : List UInt8} {ps : List (List UInt8)} {f : Nat} (h : ColAt l ps f l.length) (last : Bool) (hl : l ≠ []) (hg : grpOf (l.drop f) = none) (hd : (last && dotB (l.drop f)) = false) : readO l last = none := by
  have e : rowP last (splitF 58 [] l) = none := by
    rw [h.last, rowP_front last _ _ _ h.good, rowP, hg]
    simp only [hd]
    rfl
  rw [readO_of l last hl _ e]
  rfl
theorem dotB_grp {p : List UInt8} (h : dotB p = true) : grpOf p = none := by
  have h46 : ∃ b ∈ p, b = 46 := by
    refine Classical.byContradiction fun hn => ?_
    have hf : ∀ b ∈ p, b ≠ 46 := fun b hb e => hn ⟨b, hb, e⟩
    have := splitF_part 46 p [] [] hf
    rw [List.append_nil, List.nil_append] at this
    unfold dotB at h
    rw [this] at h
    simp [splitF] at h
  obtain ⟨b, hb, rfl⟩ := h46
  have : p.all isHex = false := by
    rw [Bool.eq_false_iff]
    intro ha
    exact absurd (List.all_eq_true.1 ha _ hb) (by decide)
  unfold grpOf
  rw [if_pos (.inr (.inr this))]
theorem dotV_L {p : List UInt8} (h : dotB p = true) (i : Nat) (hi : i < 4) : (dotV p i).toNat = ((dotL p).getD i 0).toNat := by
  have hl := dotL_length p
  unfold dotL at hl ⊢
  unfold dotV
  rw [if_pos h] at hl ⊢
  rw [if_pos h]
  have hlen : (splitF 46 [] p).length = 4 := by simpa using hl
  have ha : (splitF 46 [] p).all (fun p => numB p 255) = true := by
    unfold dotB at h
    rw [Bool.and_eq_true] at h
    exact h.2
  have hi2 : i < (splitF 46 [] p).length := by omega
  have hnum := List.all_eq_true.1 ha _ (List.getElem_mem hi2)
  have e := valB_num hnum
  simp only [List.getD, List.getElem?_map, List.getElem?_eq_getElem hi2, Option.map_some, Option.getD_some]
  omega
theorem ColAt.endD {l : List UInt8} {ps : List (List UInt8)} {f : Nat} (h : ColAt l ps f l.length) (hl : l ≠ []) (hd : dotB (l.drop f) = true) (x y : Nat) (hx : x = ((dotL (l.drop f)).getD 0 0).toNat * 256 + ((dotL (l.drop f)).getD 1 0).toNat) (hy : y = ((dotL (l.drop f)).getD 2 0).toNat * 256 + ((dotL (l.drop f)).getD 3 0).toNat) :
    readO l true = if ps.length ≤ 6 then some (grpsV ps ++ [x, y]) else none := by
  have e : rowP true (splitF 58 [] l) = some (grpsV ps ++ [x, y]) := by
    rw [h.last, rowP_front true _ _ _ h.good, rowP, dotB_grp hd]
    simp only [hd, Bool.and_self, if_true, Option.map_some]
    rw [dotV_L hd 0 (by omega), dotV_L hd 1 (by omega), dotV_L hd 2 (by omega), dotV_L hd 3 (by omega), hx, hy, Nat.mul_comm 256, Nat.mul_comm 256]
  rw [readO_of l true hl _ e]
  unfold cap8
  simp only [List.length_append, List.length_cons, List.length_nil, grpsV_length]
  by_cases hp : ps.length ≤ 6
  · rw [if_pos hp, if_pos (by omega)]
  · rw [if_neg hp, if_neg (by omega)]
/-- With groups behind. -/
theorem fill8_more (g ns : List Nat) (h : g.length + ns.length ≤ 8) : fill8 (g ++ ns) = g.map Int.ofNat ++ (ns.map Int.ofNat ++ (fill8 g).drop (g.length + ns.length)) := by
  unfold fill8
  have e : (List.map Int.ofNat g).length = g.length := by simp
  rw [List.map_append, List.append_assoc, List.length_append]
  congr 2
  rw [List.drop_append, e, List.drop_of_length_le (by rw [e]; omega), List.nil_append, List.drop_replicate]
  congr 1
  omega
theorem fill8_take (g : List Nat) : (fill8 g).take g.length = g.map Int.ofNat := by
  unfold fill8
  rw [List.take_append_of_le_length (by simp)]
  rw [List.take_of_length_le (by simp)]

/-! The longest row of zeros, as it is found. -/
def zrunB : List Bool → Nat
  | [] => 0
  | b :: l => if b then zrunB l + 1 else 0
def bestB (z : List Bool) : Nat → Nat × Nat
  | 0 => (0, 0)
  | k + 1 => if (bestB z k).2 < zrunB (z.drop k) ∧ 1 < zrunB (z.drop k) then (k, zrunB (z.drop k)) else bestB z k
def zOf (g : List Nat) : List Bool := g.map (fun n => decide (n = 0))
theorem zrun_B : ∀ g : List Nat, zrun g = zrunB (zOf g)
  | [] => rfl
  | n :: g => by
    have := zrun_B g
    unfold zrun
    show _ = if decide (n = 0) then zrunB (zOf g) + 1 else 0
    rw [this]
    by_cases h : n = 0 <;> simp [h]
theorem zOf_drop (g : List Nat) (k : Nat) : zOf (g.drop k) = (zOf g).drop k := by simp [zOf]
theorem best_B (g : List Nat) : ∀ k, best g k = bestB (zOf g) k
  | 0 => rfl
  | k + 1 => by
    unfold best bestB
    rw [best_B g k, zrun_B, zOf_drop]
/-- What is kept: the place, where the longest one begins, how long it is, how long the one is that goes on. -/
structure Lg where
  at' : Nat
  size : Nat
  run : Nat
def lgStep (k : Nat) (s : Lg) (b : Bool) : Lg := if b then (if s.size < s.run + 1 then ⟨k + 1 - (s.run + 1), s.run + 1, s.run + 1⟩ else ⟨s.at', s.size, s.run + 1⟩) else ⟨s.at', s.size, 0⟩
def lgF (z : List Bool) : Nat → Lg
  | 0 => ⟨0, 0, 0⟩
  | k + 1 => lgStep k (lgF z k) (z.getD k false)
theorem lg_best8 : ∀ a b c d e f g h : Bool, (if (lgF [a, b, c, d, e, f, g, h] 8).size < 2 then (bestB [a, b, c, d, e, f, g, h] 8).2 = 0 else bestB [a, b, c, d, e, f, g, h] 8 = ((lgF [a, b, c, d, e, f, g, h] 8).at', (lgF [a, b, c, d, e, f, g, h] 8).size)) := by
  decide +kernel
theorem lgF_le (z : List Bool) : ∀ k, (lgF z k).at' + (lgF z k).size ≤ k ∧ (lgF z k).run ≤ k
  | 0 => ⟨Nat.le_refl _, Nat.le_refl _⟩
  | k + 1 => by
    have := lgF_le z k
    unfold lgF lgStep
    split
    · split
      · simp only; omega
      · simp only; omega
    · simp only; omega
theorem eight_of {α : Type} (l : List α) (h : l.length = 8) : ∃ a b c d e f g i, l = [a, b, c, d, e, f, g, i] := by
  match l, h with
  | [a, b, c, d, e, f, g, i], _ => exact ⟨a, b, c, d, e, f, g, i, rfl⟩
/-- What is shown, by the longest row that was found. -/
theorem showC_lg (g : List Nat) (h : g.length = 8) : showC g = if (lgF (zOf g) 8).size < 2 then colJ g else colJ (g.take (lgF (zOf g) 8).at') ++ 58 :: 58 :: colJ (g.drop ((lgF (zOf g) 8).at' + (lgF (zOf g) 8).size)) := by
  obtain ⟨a, b, c, d, e, f, i, j, hz⟩ := eight_of (zOf g) (by simp [zOf, h])
  have key := lg_best8 a b c d e f i j
  rw [← hz] at key
  unfold showC
  rw [best_B]
  by_cases hs : (lgF (zOf g) 8).size < 2
  · rw [if_pos hs] at key ⊢
    rw [if_pos key]
  · rw [if_neg hs] at key ⊢
    rw [key]
    simp only
    rw [if_neg (by omega)]
end Go.Proofs.YtlbgmpjeckigjaaDoor

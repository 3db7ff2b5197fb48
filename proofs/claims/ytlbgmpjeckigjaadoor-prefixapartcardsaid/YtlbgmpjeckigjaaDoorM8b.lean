/- Prefixes as texts: what is shown is told again; cut at the first slash, or at the last one. -/
import Derived.Test.YtlbgmpjeckigjaaDoorM8
import Derived.Test.YtlbgmpjeckigjaaDoorColD
namespace Go.Proofs.YtlbgmpjeckigjaaDoor
open Go

/-- Where the last slash stands. -/
def lastAt (d : UInt8) : List UInt8 → Option Nat
  | [] => none
  | b :: l => match lastAt d l with
    | some k => some (k + 1)
    | none => if b = d then some 0 else none
theorem lastAt_none (d : UInt8) : ∀ l : List UInt8, (∀ b ∈ l, b ≠ d) → lastAt d l = none
  | [], _ => rfl
  | b :: l, h => by
    have h1 : lastAt d l = none := lastAt_none d l (fun x hx => h x (by simp [hx]))
    show (match lastAt d l with | some k => some (k + 1) | none => if b = d then some 0 else none) = none
    rw [h1]
    simp only
    rw [if_neg (h b (by simp))]
theorem lastAt_app (d : UInt8) (r : List UInt8) (hr : ∀ b ∈ r, b ≠ d) : ∀ l : List UInt8, lastAt d (l ++ d :: r) = some l.length
  | [] => by
    show (match lastAt d r with | some k => some (k + 1) | none => if d = d then some 0 else none) = some 0
    rw [lastAt_none d r hr]
    simp
  | b :: l => by
    show (match lastAt d (l ++ d :: r) with | some k => some (k + 1) | none => _) = some (l.length + 1)
    rw [lastAt_app d r hr l]


/-- The text of a prefix. -/
def headT (p : Pfx) : List UInt8 := if p.six then showA p.addr else showD (p.addr.take 4)
def showP (p : Pfx) : List UInt8 := headT p ++ 47 :: Lib.itoa p.len
/-- The address of a text, of either kind. -/
def adrT (t : List UInt8) : List UInt8 := if dotB t then dotL t ++ List.replicate 12 0 else colA t
theorem adrT_length (t : List UInt8) : (adrT t).length = 16 := by
  unfold adrT
  split
  · rw [List.length_append, dotL_length, List.length_replicate]
  · exact colA_length t
/-- The prefix of a text, cut at its last slash. -/
def pfxOf (t d : List UInt8) : Pfx := ⟨(colV t).isSome, adrT t, numV d 128⟩
def parP (l : List UInt8) : Option Pfx :=
  match lastAt 47 l with
  | none => none
  | some k => if numB (l.drop (k + 1)) 128 && (dotB (l.take k) || (colV (l.take k)).isSome) && chkP (pfxOf (l.take k) (l.drop (k + 1))) then some (pfxOf (l.take k) (l.drop (k + 1))) else none


theorem numB_itoa128 (n : Int) (h0 : 0 ≤ n) (h1 : n ≤ 128) : numB (Lib.itoa n) 128 = true ∧ numV (Lib.itoa n) 128 = n := by
  have h2 : numB (Lib.itoa n) 255 = true := by rw [numB_itoa255]; exact decide_eq_true ⟨h0, by omega⟩
  have h3 := numV_itoa255 n h0 (by omega)
  have h4 : decV (Lib.itoa n) = n := by
    unfold numV at h3
    rw [if_pos h2] at h3
    exact h3
  have h5 : numB (Lib.itoa n) 128 = true := by
    unfold numB at h2 ⊢
    rw [Bool.and_eq_true] at h2 ⊢
    exact ⟨h2.1, decide_eq_true (by rw [h4]; exact h1)⟩
  refine ⟨h5, ?_⟩
  unfold numV
  rw [if_pos h5, h4]
theorem itoa_slash (n : Int) (h0 : 0 ≤ n) (h1 : n ≤ 128) : ∀ b ∈ Lib.itoa n, b ≠ 47 := by
  have h2 := (numB_itoa128 n h0 h1).1
  unfold numB at h2
  rw [Bool.and_eq_true, Bool.and_eq_true] at h2
  have h3 := List.all_eq_true.1 h2.1.2
  intro b hb hc
  subst hc
  have := h3 47 hb
  simp [isDec] at this
theorem dec_slash (n : Nat) (h : n ≤ 255) : ∀ b ∈ Lib.decDigits n, b ≠ 47 ∧ b ≠ 58 := by
  have h2 : numB (Lib.decDigits n) 255 = true := by
    have := numB_itoa255 (n : Int)
    rw [show Lib.itoa (n : Int) = Lib.decDigits n from rfl] at this
    rw [this]
    exact decide_eq_true ⟨by omega, by omega⟩
  unfold numB at h2
  rw [Bool.and_eq_true, Bool.and_eq_true] at h2
  have h3 := List.all_eq_true.1 h2.1.2
  intro b hb
  have := h3 b hb
  constructor
  · rintro rfl; simp [isDec] at this
  · rintro rfl; simp [isDec] at this
theorem joinB_mem (d : UInt8) : ∀ (ps : List (List UInt8)) (b : UInt8), b ∈ joinB d ps → b = d ∨ ∃ p ∈ ps, b ∈ p
  | [], b, h => by simp [joinB] at h
  | [p], b, h => .inr ⟨p, by simp, by simpa [joinB] using h⟩
  | p :: q :: r, b, h => by
    rw [joinB_cons d p (q :: r) (by simp)] at h
    rcases List.mem_append.1 h with h | h
    · exact .inr ⟨p, by simp, h⟩
    · rcases List.mem_cons.1 h with h | h
      · exact .inl h
      · rcases joinB_mem d (q :: r) b h with h | ⟨x, hx, hb⟩
        · exact .inl h
        · exact .inr ⟨x, by simp at hx ⊢; exact .inr hx, hb⟩
theorem showD_free (a : List UInt8) : ∀ b ∈ showD a, b ≠ 47 ∧ b ≠ 58 := by
  intro b hb
  rcases joinB_mem 46 _ b hb with rfl | ⟨p, hp, hb⟩
  · decide
  · obtain ⟨x, _, rfl⟩ := List.mem_map.1 hp
    exact dec_slash _ (by have := UInt8.toNat_lt x; omega) b hb
theorem showC_mem {g : List Nat} {b : UInt8} (h : b ∈ showC g) : b = 58 ∨ ∃ k, k < 16 ∧ b = hexDig k := by
  unfold showC at h
  split at h
  · exact colJ_mem h
  · rcases List.mem_append.1 h with h | h
    · exact colJ_mem h
    · rcases List.mem_cons.1 h with h | h
      · exact .inl h
      · rcases List.mem_cons.1 h with h | h
        · exact .inl h
        · exact colJ_mem h
theorem hexDig_slash : ∀ i : Fin 16, hexDig i.val ≠ 47 ∧ hexDig i.val ≠ 46 := by decide
theorem showC_free (g : List Nat) : ∀ b ∈ showC g, b ≠ 47 ∧ b ≠ 46 := by
  intro b hb
  rcases showC_mem hb with rfl | ⟨k, hk, rfl⟩
  · decide
  · exact hexDig_slash ⟨k, hk⟩
/-- A text without dots is no dotted one. -/
theorem dotB_nodot {l : List UInt8} (h : ∀ b ∈ l, b ≠ 46) : dotB l = false := by
  have h1 : splitF 46 [] l = [l] := by
    have := splitF_part 46 l [] [] h
    rw [List.append_nil, List.nil_append] at this
    rw [this]
    rfl
  unfold dotB
  rw [h1]
  rfl
theorem cc_free : ∀ (l : List UInt8), (∀ b ∈ l, b ≠ 58) → cc l = none
  | [], _ => rfl
  | b :: l, h => by
    rw [cc_byte b (h b (by simp)), cc_free l (fun x hx => h x (by simp [hx]))]
    rfl
/-- A text without colons has no eight groups. -/
theorem colV_nocolon {l : List UInt8} (h : ∀ b ∈ l, b ≠ 58) : colV l = none := by
  have h1 : splitF 58 [] l = [l] := by
    have := splitF_part 58 l [] [] h
    rw [List.append_nil, List.nil_append] at this
    rw [this]
    rfl
  have h2 : ∀ r, rowV l true = some r → r.length ≠ 8 := by
    intro r hr
    unfold rowV at hr
    split at hr
    · cases hr; simp
    · rw [h1] at hr
      unfold rowP at hr
      split at hr
      · cases hr; simp
      · split at hr
        · cases hr; simp
        · cases hr
  unfold colV
  rw [cc_free l h]
  simp only
  cases hr : rowV l true with
  | none => rfl
  | some r =>
    simp only
    rw [if_neg (h2 r hr)]

theorem tail_zero {p : Pfx} (hc : chkP p = true) (h6 : p.six = false) (hl : p.addr.length = 16) : p.addr = p.addr.take 4 ++ [0, 0, 0, 0, 0, 0, 0, 0, 0, 0, 0, 0] := by
  obtain ⟨⟨h0, h1⟩, hb⟩ := (chk_iff p).1 hc
  rw [h6] at h1
  have h32 : p.len ≤ 32 := h1
  refine addr_ext hl (by rw [List.length_append, List.length_take]; simp; omega) fun i hi => ?_
  by_cases hlt : i < 32
  · unfold bitL
    have e : (p.addr.take 4 ++ [0, 0, 0, 0, 0, 0, 0, 0, 0, 0, 0, 0]).getD (i / 8) 0 = p.addr.getD (i / 8) 0 := by
      rw [List.getD, List.getD, List.getElem?_append_left (by rw [List.length_take]; omega), List.getElem?_take, if_pos (by omega)]
    rw [e]
  · rw [hb i hi (by omega)]
    unfold bitL
    have e : (p.addr.take 4 ++ [0, 0, 0, 0, 0, 0, 0, 0, 0, 0, 0, 0]).getD (i / 8) 0 = 0 := by
      rw [List.getD, List.getElem?_append_right (by rw [List.length_take]; omega), List.length_take, hl]
      have : i / 8 - min 4 16 = 0 ∨ i / 8 - min 4 16 = 1 ∨ i / 8 - min 4 16 = 2 ∨ i / 8 - min 4 16 = 3 ∨ i / 8 - min 4 16 = 4 ∨ i / 8 - min 4 16 = 5 ∨ i / 8 - min 4 16 = 6 ∨ i / 8 - min 4 16 = 7 ∨ i / 8 - min 4 16 = 8 ∨ i / 8 - min 4 16 = 9 ∨ i / 8 - min 4 16 = 10 ∨ i / 8 - min 4 16 = 11 := by omega
      rcases this with h | h | h | h | h | h | h | h | h | h | h | h <;> rw [h] <;> rfl
    rw [e]
    simp


theorem headT_len (p : Pfx) : (headT p).length ≤ 88 := by
  unfold headT
  split
  · have := (showA_len p.addr).2; omega
  · have := showD_len (p.addr.take 4)
    have h2 : (p.addr.take 4).length ≤ 4 := by rw [List.length_take]; omega
    omega
/-- What is shown is told. -/
theorem pfx_told {p : Pfx} (hc : chkP p = true) (hl : p.addr.length = 16) : parP (showP p) = some p := by
  obtain ⟨⟨h0, h1⟩, -⟩ := (chk_iff p).1 hc
  have h128 : p.len ≤ 128 := by unfold mostP at h1; split at h1 <;> omega
  obtain ⟨n1, n2⟩ := numB_itoa128 p.len h0 h128
  have ek : lastAt 47 (showP p) = some (headT p).length := lastAt_app 47 _ (itoa_slash p.len h0 h128) _
  have e1 : (showP p).take (headT p).length = headT p := List.take_left
  have e2 : (showP p).drop ((headT p).length + 1) = Lib.itoa p.len := by
    unfold showP
    rw [← List.drop_drop, List.drop_left]
    rfl
  have key : (dotB (headT p) || (colV (headT p)).isSome) = true ∧ pfxOf (headT p) (Lib.itoa p.len) = p := by
    obtain ⟨six, addr, len⟩ := p
    simp only at n2
    cases six
    · have ha : addr = addr.take 4 ++ [0, 0, 0, 0, 0, 0, 0, 0, 0, 0, 0, 0] := tail_zero hc rfl hl
      have e3 : headT ⟨false, addr, len⟩ = showD (addr.take 4) := rfl
      rw [e3]
      obtain ⟨t1, t2⟩ := dotL_told (addr.take 4) (by rw [List.length_take]; have h16 : addr.length = 16 := hl; omega)
      rw [t1]
      refine ⟨rfl, ?_⟩
      unfold pfxOf adrT
      rw [colV_nocolon (fun b hb => (showD_free _ b hb).2), t1, if_pos rfl, t2, n2]
      show Pfx.mk false (addr.take 4 ++ [0, 0, 0, 0, 0, 0, 0, 0, 0, 0, 0, 0]) len = _
      rw [← ha]
    · have e3 : headT ⟨true, addr, len⟩ = showA addr := rfl
      rw [e3]
      obtain ⟨t1, t3⟩ := told addr hl
      have t2 : dotB (showA addr) = false := dotB_nodot (fun b hb => (showC_free (grpN addr) b hb).2)
      rw [t1, t2]
      refine ⟨rfl, ?_⟩
      unfold pfxOf adrT
      rw [t1, t2, if_neg (by simp), t3, n2]
      rfl
  unfold parP
  rw [ek]
  simp only
  rw [e1, e2, n1, key.1, key.2, hc]
  rfl

/-! Cut at the first slash. -/
def cut1 (d : UInt8) : List UInt8 → List UInt8 × List UInt8
  | [] => ([], [])
  | b :: l => if b = d then ([], l) else (b :: (cut1 d l).1, (cut1 d l).2)
theorem cut1_free (d : UInt8) : ∀ l : List UInt8, (∀ b ∈ l, b ≠ d) → cut1 d l = (l, [])
  | [], _ => rfl
  | b :: l, h => by
    have ih := cut1_free d l (fun x hx => h x (by simp [hx]))
    unfold cut1
    rw [if_neg (h b (by simp)), ih]
theorem cut1_app (d : UInt8) (r : List UInt8) : ∀ l : List UInt8, (∀ b ∈ l, b ≠ d) → cut1 d (l ++ d :: r) = (l, r)
  | [], _ => by simp [cut1]
  | b :: l, h => by
    have ih := cut1_app d r l (fun x hx => h x (by simp [hx]))
    rw [List.cons_append, cut1, if_neg (h b (by simp)), ih]
theorem cut1_len (d : UInt8) : ∀ l : List UInt8, (cut1 d l).1.length ≤ l.length ∧ (cut1 d l).2.length ≤ l.length
  | [] => ⟨Nat.le_refl _, Nat.le_refl _⟩
  | b :: l => by
    have ih := cut1_len d l
    unfold cut1
    split
    · simp
    · simp only [List.length_cons]; omega
theorem first_of (d : UInt8) : ∀ l : List UInt8, (∀ b ∈ l, b ≠ d) ∨ ∃ t r, l = t ++ d :: r ∧ ∀ b ∈ t, b ≠ d
  | [] => .inl (fun _ h => by cases h)
  | b :: l => by
    by_cases hb : b = d
    · exact .inr ⟨[], l, by rw [hb]; rfl, fun _ h => by cases h⟩
    · rcases first_of d l with h | ⟨t, r, rfl, h⟩
      · left
        intro x hx
        rcases List.mem_cons.1 hx with rfl | hx
        · exact hb
        · exact h x hx
      · right
        refine ⟨b :: t, r, rfl, fun x hx => ?_⟩
        rcases List.mem_cons.1 hx with rfl | hx
        · exact hb
        · exact h x hx
theorem last_of (d : UInt8) : ∀ l : List UInt8, (∀ b ∈ l, b ≠ d) ∨ ∃ t r, l = t ++ d :: r ∧ ∀ b ∈ r, b ≠ d
  | [] => .inl (fun _ h => by cases h)
  | b :: l => by
    rcases last_of d l with h | ⟨t, r, rfl, h⟩
    · by_cases hb : b = d
      · exact .inr ⟨[], l, by rw [hb]; rfl, h⟩
      · left
        intro x hx
        rcases List.mem_cons.1 hx with rfl | hx
        · exact hb
        · exact h x hx
    · exact .inr ⟨b :: t, r, rfl, h⟩
theorem index_one (d : UInt8) : ∀ l : List UInt8, Lib.index l [d] = if l.contains d then ((cut1 d l).1.length : Int) else -1
  | [] => by simp [Lib.index]
  | b :: l => by
    have ih := index_one d l
    by_cases h : b = d
    · subst h
      simp [Lib.index, List.isPrefixOf, cut1]
    · have hp : [d].isPrefixOf (b :: l) = false := by
        simp only [List.isPrefixOf, Bool.and_true]
        exact beq_eq_false_iff_ne.2 (fun e => h e.symm)
      rw [Lib.index, hp]
      simp only [Bool.false_eq_true, if_false]
      rw [ih]
      have hc : (b :: l).contains d = l.contains d := by
        rw [List.contains_cons, beq_eq_false_iff_ne.2 (fun e => h e.symm), Bool.false_or]
      rw [hc]
      cases hl : l.contains d
      · simp
      · simp only [if_true]
        rw [cut1, if_neg h, if_neg (by simp)]
        simp
theorem cut_one (d : UInt8) (l : List UInt8) : Lib.cut l [d] = ((cut1 d l).1, (cut1 d l).2, l.contains d) := by
  have e := index_one d l
  unfold Lib.cut
  rcases first_of d l with h | ⟨t, r, rfl, h⟩
  · have hc : l.contains d = false := by
      rw [List.contains_eq_any_beq, List.any_eq_false]
      intro x hx hq
      exact h x hx (by simpa using (beq_iff_eq.1 hq).symm)
    rw [hc] at e ⊢
    rw [e, cut1_free d l h]
    simp
  · have hc : (t ++ d :: r).contains d = true := by
      rw [List.contains_eq_any_beq, List.any_eq_true]
      exact ⟨d, by simp, by simp⟩
    rw [hc, cut1_app d r t h] at e
    rw [e, hc, cut1_app d r t h]
    simp only [if_true]
    rw [if_pos (by omega), Int.toNat_natCast]
    have e1 : (t ++ d :: r).take t.length = t := List.take_left
    have e2 : (t ++ d :: r).drop (t.length + 1) = r := by
      rw [← List.drop_drop, List.drop_left]; rfl
    rw [e1]
    show (t, (t ++ d :: r).drop (t.length + 1), true) = _
    rw [e2]

/-! No address has a slash. -/
theorem dot_free {t : List UInt8} (h : dotB t = true) : ∀ b ∈ t, b ≠ 47 ∧ b ≠ 58 := by
  intro b hb
  rw [← dotL_shown h] at hb
  exact showD_free _ b hb
theorem hex_noslash : isHex 47 = false := by decide
theorem grp_free {p : List UInt8} {n : Nat} (h : grpOf p = some n) : ∀ b ∈ p, b ≠ 47 := by
  unfold grpOf at h
  split at h
  · cases h
  · rename_i hn
    have ha : p.all isHex = true := by
      cases he : p.all isHex
      · exact absurd (.inr (.inr he)) hn
      · rfl
    intro b hb hc
    subst hc
    have := List.all_eq_true.1 ha 47 hb
    rw [hex_noslash] at this
    cases this
theorem rowP_free (last : Bool) : ∀ (ps : List (List UInt8)) (g : List Nat), rowP last ps = some g → ∀ p ∈ ps, ∀ b ∈ p, b ≠ 47
  | [], _, _, p, hp => by cases hp
  | [q], g, h, p, hp => by
    obtain rfl : p = q := by simpa using hp
    unfold rowP at h
    split at h
    · rename_i n hn; exact grp_free hn
    · split at h
      · rename_i hd
        rw [Bool.and_eq_true] at hd
        exact fun b hb => (dot_free hd.2 b hb).1
      · cases h
  | q :: q2 :: r, g, h, p, hp => by
    unfold rowP at h
    split at h
    · rename_i n hn
      rcases List.mem_cons.1 hp with rfl | hp
      · exact grp_free hn
      · cases hr : rowP last (q2 :: r) with
        | none => rw [hr] at h; cases h
        | some g2 => exact rowP_free last (q2 :: r) g2 hr p hp
    · cases h
theorem rowV_free {s : List UInt8} {last : Bool} {g : List Nat} (h : rowV s last = some g) : ∀ b ∈ s, b ≠ 47 := by
  unfold rowV at h
  split at h
  · rename_i hs; subst hs; intro b hb; cases hb
  · intro b hb
    have e := join_split 58 s []
    rw [List.nil_append] at e
    rw [← e] at hb
    rcases joinB_mem 58 _ b hb with rfl | ⟨p, hp, hb⟩
    · decide
    · exact rowP_free last _ g h p hp b hb
theorem cc_parts : ∀ (l : List UInt8) (k : Nat), cc l = some k → l = l.take k ++ 58 :: 58 :: l.drop (k + 2)
  | [], k, h => by cases h
  | [_], k, h => by cases h
  | a :: b :: l, k, h => by
    unfold cc at h
    split at h
    · rename_i hab
      cases h
      rw [hab.1, hab.2]
      rfl
    · cases hc : cc (b :: l) with
      | none => rw [hc] at h; cases h
      | some j =>
        rw [hc] at h
        cases h
        have ih := cc_parts (b :: l) j hc
        show a :: b :: l = a :: ((b :: l).take j ++ 58 :: 58 :: (b :: l).drop (j + 2))
        rw [← ih]
theorem col_free {t : List UInt8} (h : (colV t).isSome = true) : ∀ b ∈ t, b ≠ 47 := by
  unfold colV at h
  split at h
  · split at h
    · rename_i l hl; exact rowV_free hl
    · cases h
  · rename_i k hk
    split at h
    · rename_i a c ha hc
      intro b hb
      rw [cc_parts t k hk] at hb
      rcases List.mem_append.1 hb with hb | hb
      · exact rowV_free ha b hb
      · rcases List.mem_cons.1 hb with rfl | hb
        · decide
        · rcases List.mem_cons.1 hb with rfl | hb
          · decide
          · exact rowV_free hc b hb
    · cases h
/-- No text is of both kinds. -/
theorem dot_nocol {t : List UInt8} (h : dotB t = true) : colV t = none := colV_nocolon (fun b hb => (dot_free h b hb).2)

/-! The prefix of a text, cut at its first slash. -/
def pfxG (t d : List UInt8) : Pfx := ⟨(colV t).isSome, adrT t, numV d (mostP (colV t).isSome)⟩
def parG (l : List UInt8) : Option Pfx :=
  if (dotB (cut1 47 l).1 || (colV (cut1 47 l).1).isSome) && (numB (cut1 47 l).2 (mostP (colV (cut1 47 l).1).isSome) && chkP (pfxG (cut1 47 l).1 (cut1 47 l).2)) then some (pfxG (cut1 47 l).1 (cut1 47 l).2) else none
theorem numB_slash {d : List UInt8} (h : 47 ∈ d) (m : Int) : numB d m = false := by
  cases e : numB d m
  · rfl
  · unfold numB at e
    rw [Bool.and_eq_true, Bool.and_eq_true] at e
    have := List.all_eq_true.1 e.1.2 47 h
    simp [isDec] at this
theorem numB_nil (m : Int) : numB [] m = false := rfl
theorem num_most (t d : List UInt8) : (numB d (mostP (colV t).isSome) && chkP (pfxG t d)) = (numB d 128 && chkP (pfxOf t d)) ∧ (numB d (mostP (colV t).isSome) = true → pfxG t d = pfxOf t d) := by
  have hb : ∀ m : Int, numB d m = (!d.isEmpty && !(decide (1 < d.length) && decide (byteAt d 0 = 48)) && d.all isDec && decide (decV d ≤ m)) := fun _ => rfl
  generalize hs : (colV t).isSome = s
  have hm : mostP s ≤ 128 := (clamp_le s 0).2.2
  cases h1 : numB d (mostP s) with
  | true =>
    have h2 : numB d 128 = true := by
      rw [hb] at h1 ⊢
      rw [Bool.and_eq_true] at h1 ⊢
      exact ⟨h1.1, decide_eq_true (by have := of_decide_eq_true h1.2; omega)⟩
    have e : pfxG t d = pfxOf t d := by
      unfold pfxG pfxOf
      rw [hs]
      congr 1
      unfold numV
      rw [h1, h2]
    rw [h2, e]
    exact ⟨rfl, fun _ => rfl⟩
  | false =>
    refine ⟨?_, fun h => by cases h⟩
    rw [Bool.false_and]
    cases h2 : numB d 128 with
    | false => rfl
    | true =>
      symm
      rw [Bool.true_and]
      cases h3 : chkP (pfxOf t d) with
      | false => rfl
      | true =>
        have h4 := ((chk_iff _).1 h3).1.2
        have h5 : numV d 128 ≤ mostP s := by
          have h6 : numV d 128 ≤ mostP (colV t).isSome := h4
          rw [hs] at h6
          exact h6
        unfold numV at h5
        rw [h2, if_pos rfl] at h5
        rw [hb] at h1 h2
        rw [Bool.and_eq_true] at h2
        rw [h2.1, Bool.true_and, decide_eq_true h5] at h1
        cases h1
theorem parG_eq (l : List UInt8) : parG l = parP l := by
  rcases first_of 47 l with h | ⟨t, r, rfl, h⟩
  · unfold parG parP
    rw [cut1_free 47 l h, lastAt_none 47 l h, numB_nil]
    simp
  · rcases last_of 47 r with hr | ⟨c, b, rfl, hr⟩
    · have e1 : (t ++ 47 :: r).take t.length = t := List.take_left
      have e2 : (t ++ 47 :: r).drop (t.length + 1) = r := by
        rw [← List.drop_drop, List.drop_left]; rfl
      unfold parG parP
      rw [cut1_app 47 r t h, lastAt_app 47 r hr t]
      simp only
      rw [e1, e2, (num_most t r).1]
      cases hn : numB r 128 <;> cases hk : chkP (pfxOf t r) <;> cases hd : (dotB t || (colV t).isSome) <;> simp only [Bool.and_false, Bool.and_true, Bool.false_eq_true, if_false, if_true]
      have h1 : numB r (mostP (colV t).isSome) = true := by
        have := (num_most t r).1
        rw [hn, hk] at this
        change _ = true at this
        rw [Bool.and_eq_true] at this
        exact this.1
      rw [(num_most t r).2 h1]
    · have hb : lastAt 47 (t ++ 47 :: (c ++ 47 :: b)) = some (t ++ 47 :: c).length := by
        have := lastAt_app 47 b hr (t ++ 47 :: c)
        rw [List.append_assoc] at this
        exact this
      have e1 : (t ++ 47 :: (c ++ 47 :: b)).take (t ++ 47 :: c).length = t ++ 47 :: c := by
        have : t ++ 47 :: (c ++ 47 :: b) = (t ++ 47 :: c) ++ 47 :: b := by simp
        rw [this]
        exact List.take_left
      have hd : dotB (t ++ 47 :: c) = false := by
        cases e : dotB (t ++ 47 :: c)
        · rfl
        · exact absurd rfl (dot_free e 47 (by simp)).1
      have hc : (colV (t ++ 47 :: c)).isSome = false := by
        cases e : (colV (t ++ 47 :: c)).isSome
        · rfl
        · exact absurd rfl (col_free e 47 (by simp))
      unfold parG parP
      rw [cut1_app 47 _ t h, hb]
      simp only
      rw [e1, hd, hc, numB_slash (by simp)]
      simp
end Go.Proofs.YtlbgmpjeckigjaaDoor

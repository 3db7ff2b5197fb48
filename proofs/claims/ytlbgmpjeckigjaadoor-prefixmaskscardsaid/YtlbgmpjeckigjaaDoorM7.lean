/- Addresses with colons, as lists of bytes: what is shown is told again, of no program. -/
import Derived.Test.YtlbgmpjeckigjaaDoorM6
import Derived.Test.YtlbgmpjeckigjaaDoorMathBack
namespace Go.Proofs.YtlbgmpjeckigjaaDoor
open Go

/-! A group. -/
def hexN (p : List UInt8) : Nat := p.foldl (fun n b => 16 * n + hexV b) 0
def grpOf (p : List UInt8) : Option Nat := if p.length = 0 ∨ 4 < p.length ∨ p.all isHex = false then none else some (hexN p)
def stripZ : List UInt8 → List UInt8
  | [] => []
  | [b] => [b]
  | b :: c :: l => if b = 48 then stripZ (c :: l) else b :: c :: l
def hexG (n : Nat) : List UInt8 := stripZ (hexL (lowB 2 n))
theorem hexN_zero (l : List UInt8) : hexN (48 :: l) = hexN l := by
  unfold hexN
  rw [List.foldl_cons]
  congr 1
theorem stripZ_num : ∀ l : List UInt8, hexN (stripZ l) = hexN l
  | [] => rfl
  | [_] => rfl
  | b :: c :: l => by
    unfold stripZ
    by_cases h : b = 48
    · rw [if_pos h, stripZ_num (c :: l), h, hexN_zero]
    · rw [if_neg h]
theorem stripZ_sub : ∀ (l : List UInt8), ∀ b ∈ stripZ l, b ∈ l
  | [], b, h => h
  | [_], b, h => h
  | x :: c :: l, b, h => by
    unfold stripZ at h
    by_cases hx : x = 48
    · rw [if_pos hx] at h
      exact List.mem_cons_of_mem _ (stripZ_sub (c :: l) b h)
    · rw [if_neg hx] at h
      exact h
theorem stripZ_length : ∀ (l : List UInt8), (stripZ l).length ≤ l.length
  | [] => Nat.le_refl _
  | [_] => Nat.le_refl _
  | x :: c :: l => by
    unfold stripZ
    by_cases hx : x = 48
    · rw [if_pos hx]
      have := stripZ_length (c :: l)
      simp only [List.length_cons] at *
      omega
    · rw [if_neg hx]; exact Nat.le_refl _
theorem stripZ_ne : ∀ (l : List UInt8), l ≠ [] → stripZ l ≠ []
  | [], h => absurd rfl h
  | [_], _ => by simp [stripZ]
  | x :: c :: l, _ => by
    unfold stripZ
    by_cases hx : x = 48
    · rw [if_pos hx]; exact stripZ_ne (c :: l) (by simp)
    · rw [if_neg hx]; simp
theorem hexDig_free : ∀ i : Fin 16, hexDig i.val ≠ 58 ∧ hexDig i.val ≠ 46 ∧ ¬ (65 ≤ (hexDig i.val).toNat ∧ (hexDig i.val).toNat ≤ 70) := by decide
theorem hexL_mem {l : List UInt8} {b : UInt8} (h : b ∈ hexL l) : ∃ n, n < 16 ∧ b = hexDig n := by
  unfold hexL at h
  obtain ⟨x, _, hx⟩ := List.mem_flatMap.1 h
  have := UInt8.toNat_lt x
  simp only [List.mem_cons, List.not_mem_nil, or_false] at hx
  rcases hx with rfl | rfl
  · exact ⟨_, by omega, rfl⟩
  · exact ⟨_, by omega, rfl⟩
theorem hexG_mem {n : Nat} {b : UInt8} (h : b ∈ hexG n) : ∃ k, k < 16 ∧ b = hexDig k := hexL_mem (stripZ_sub _ b h)
theorem hexG_free (n : Nat) : ∀ b ∈ hexG n, b ≠ 58 := by
  intro b hb
  obtain ⟨k, hk, rfl⟩ := hexG_mem hb
  exact (hexDig_free ⟨k, hk⟩).1
theorem hexG_ne (n : Nat) : hexG n ≠ [] := stripZ_ne _ (by simp [hexL, lowB])
theorem hexG_length (n : Nat) : (hexG n).length ≤ 4 := by
  have := stripZ_length (hexL (lowB 2 n))
  rw [hexL_length, lowB_length] at this
  exact this
theorem hexN_pair (x y : UInt8) : hexN (hexL [x, y]) = x.toNat * 256 + y.toNat := by
  have hx := UInt8.toNat_lt x
  have hy := UInt8.toNat_lt y
  have e1 := (hexDig_ok (x.toNat / 16) (by omega)).2
  have e2 := (hexDig_ok (x.toNat % 16) (by omega)).2
  have e3 := (hexDig_ok (y.toNat / 16) (by omega)).2
  have e4 := (hexDig_ok (y.toNat % 16) (by omega)).2
  show 16 * (16 * (16 * (16 * 0 + hexV (hexDig (x.toNat / 16))) + hexV (hexDig (x.toNat % 16))) + hexV (hexDig (y.toNat / 16))) + hexV (hexDig (y.toNat % 16)) = _
  rw [e1, e2, e3, e4]
  omega
theorem lowB2_num (n : Nat) (h : n ≤ 65535) : (UInt8.ofNat (n / 256 ^ 1 % 256)).toNat * 256 + (UInt8.ofNat (n / 256 ^ 0 % 256)).toNat = n := by
  rw [toNat_ofNat_mod, toNat_ofNat_mod, Nat.pow_one, Nat.pow_zero, Nat.div_one]
  omega
theorem hexG_grp (n : Nat) (h : n ≤ 65535) : grpOf (hexG n) = some n := by
  have ha : (hexG n).all isHex = true := by
    rw [List.all_eq_true]
    intro b hb
    obtain ⟨k, hk, rfl⟩ := hexG_mem hb
    exact (hexDig_ok k hk).1
  have hl := hexG_length n
  have hn : (hexG n).length ≠ 0 := fun e => hexG_ne n (List.eq_nil_of_length_eq_zero e)
  unfold grpOf
  rw [if_neg (fun hc => by
    rcases hc with h1 | h1 | h1
    · exact hn h1
    · omega
    · rw [ha] at h1; cases h1)]
  congr 1
  show hexN (stripZ (hexL (lowB 2 n))) = n
  rw [stripZ_num]
  show hexN (hexL [UInt8.ofNat (n / 256 ^ 1 % 256), UInt8.ofNat (n / 256 ^ 0 % 256)]) = n
  rw [hexN_pair, lowB2_num n h]
theorem hexN_lt : ∀ (p : List UInt8) (n : Nat), p.foldl (fun n b => 16 * n + hexV b) n < (n + 1) * 16 ^ p.length
  | [], n => by simp
  | b :: p, n => by
    have h := hexN_lt p (16 * n + hexV b)
    have hb := hexV_lt b
    rw [List.foldl_cons, List.length_cons, Nat.pow_succ, Nat.mul_comm (16 ^ p.length) 16, ← Nat.mul_assoc]
    exact Nat.lt_of_lt_of_le h (Nat.mul_le_mul_right _ (by omega))
theorem grpOf_le {p : List UInt8} {n : Nat} (h : grpOf p = some n) : n ≤ 65535 := by
  unfold grpOf at h
  split at h
  · cases h
  · rename_i hc
    cases h
    have h1 := hexN_lt p 0
    have h2 : 16 ^ p.length ≤ 16 ^ 4 := Nat.pow_le_pow_right (by omega) (by omega)
    unfold hexN
    omega

/-! Where two colons stand first. -/
def cc : List UInt8 → Option Nat
  | [] => none
  | [_] => none
  | a :: b :: l => if a = 58 ∧ b = 58 then some 0 else (cc (b :: l)).map (· + 1)
theorem cc_byte (b : UInt8) (h : b ≠ 58) : ∀ l : List UInt8, cc (b :: l) = (cc l).map (· + 1)
  | [] => rfl
  | c :: l => by
    show (if b = 58 ∧ c = 58 then some 0 else (cc (c :: l)).map (· + 1)) = _
    rw [if_neg (fun e => h e.1)]
theorem cc_one (c : UInt8) (l : List UInt8) (h : c ≠ 58) : cc (58 :: c :: l) = (cc (c :: l)).map (· + 1) := by
  show (if (58 : UInt8) = 58 ∧ c = 58 then some 0 else (cc (c :: l)).map (· + 1)) = _
  rw [if_neg (fun e => h e.2)]
theorem cc_part : ∀ (p l : List UInt8), (∀ b ∈ p, b ≠ 58) → cc (p ++ l) = (cc l).map (· + p.length)
  | [], l, _ => by cases h : cc l <;> simp [h]
  | b :: p, l, h => by
    rw [List.cons_append, cc_byte b (h b (by simp)), cc_part p l (fun x hx => h x (by simp [hx])), Option.map_map]
    congr 1
/-- Parts that may stand between colons. -/
def partsOk (ps : List (List UInt8)) : Prop := ∀ p ∈ ps, p ≠ [] ∧ ∀ b ∈ p, b ≠ 58
theorem join_start {ps : List (List UInt8)} (h : partsOk ps) (hn : ps ≠ []) : ∃ c l, joinB 58 ps = c :: l ∧ c ≠ 58 := by
  match ps, hn with
  | [p], _ =>
    obtain ⟨h1, h2⟩ := h p (by simp)
    match p, h1 with
    | c :: l, _ => exact ⟨c, l, rfl, h2 c (by simp)⟩
  | p :: q :: r, _ =>
    obtain ⟨h1, h2⟩ := h p (by simp)
    match p, h1 with
    | c :: l, _ => exact ⟨c, _, rfl, h2 c (by simp)⟩
theorem cc_join : ∀ (ps : List (List UInt8)), partsOk ps → cc (joinB 58 ps) = none
  | [], _ => rfl
  | [p], h => by
    have := cc_part p [] (h p (by simp)).2
    rw [List.append_nil] at this
    exact this
  | p :: q :: r, h => by
    have hq : partsOk (q :: r) := fun x hx => h x (by simp [hx])
    obtain ⟨c, l, hc, hne⟩ := join_start hq (by simp)
    show cc (p ++ 58 :: joinB 58 (q :: r)) = none
    rw [cc_part p _ (h p (by simp)).2, hc, cc_one c l hne, ← hc, cc_join (q :: r) hq]
    rfl
theorem cc_two : ∀ (ps : List (List UInt8)) (B : List UInt8), partsOk ps → cc (joinB 58 ps ++ 58 :: 58 :: B) = some (joinB 58 ps).length
  | [], B, _ => by simp [joinB, cc]
  | [p], B, h => by
    show cc (p ++ 58 :: 58 :: B) = some p.length
    rw [cc_part p _ (h p (by simp)).2]
    simp [cc]
  | p :: q :: r, B, h => by
    have hq : partsOk (q :: r) := fun x hx => h x (by simp [hx])
    obtain ⟨c, l, hc, hne⟩ := join_start hq (by simp)
    have ih := cc_two (q :: r) B hq
    show cc ((p ++ 58 :: joinB 58 (q :: r)) ++ 58 :: 58 :: B) = some (p ++ 58 :: joinB 58 (q :: r)).length
    rw [List.append_assoc, cc_part p _ (h p (by simp)).2]
    rw [hc] at ih ⊢
    rw [List.cons_append, List.cons_append, cc_one c _ hne]
    rw [List.cons_append] at ih
    rw [ih]
    simp only [Option.map_some, List.length_append, List.length_cons]
    congr 1
    omega

/-! Rows of groups. -/
def rowP (last : Bool) : List (List UInt8) → Option (List Nat)
  | [] => some []
  | [p] => match grpOf p with
    | some n => some [n]
    | none => if last && dotB p then some [256 * (dotV p 0).toNat + (dotV p 1).toNat, 256 * (dotV p 2).toNat + (dotV p 3).toNat] else none
  | p :: q :: r => match grpOf p with
    | some n => (rowP last (q :: r)).map (n :: ·)
    | none => none
def rowV (s : List UInt8) (last : Bool) : Option (List Nat) := if s = [] then some [] else rowP last (splitF 58 [] s)
/-- The groups of a text, if they are eight. -/
def colV (s : List UInt8) : Option (List Nat) :=
  match cc s with
  | none => match rowV s true with
    | some l => if l.length = 8 then some l else none
    | none => none
  | some at' => match rowV (s.take at') false, rowV (s.drop (at' + 2)) true with
    | some a, some b => if a.length + b.length ≤ 7 then some (a ++ List.replicate (8 - a.length - b.length) 0 ++ b) else none
    | _, _ => none
theorem rowP_groups (last : Bool) : ∀ (ns : List Nat), (∀ n ∈ ns, n ≤ 65535) → rowP last (ns.map hexG) = some ns
  | [], _ => rfl
  | [n], h => by
    show (match grpOf (hexG n) with | some n => some [n] | none => _) = _
    rw [hexG_grp n (h n (by simp))]
  | n :: m :: r, h => by
    show (match grpOf (hexG n) with | some n => (rowP last ((m :: r).map hexG)).map (n :: ·) | none => none) = _
    rw [hexG_grp n (h n (by simp)), rowP_groups last (m :: r) (fun x hx => h x (by simp [hx]))]
    rfl
def colJ (ns : List Nat) : List UInt8 := joinB 58 (ns.map hexG)
theorem groups_ok (ns : List Nat) : partsOk (ns.map hexG) := by
  intro p hp
  obtain ⟨n, _, rfl⟩ := List.mem_map.1 hp
  exact ⟨hexG_ne n, hexG_free n⟩
theorem rowV_groups (last : Bool) (ns : List Nat) (h : ∀ n ∈ ns, n ≤ 65535) : rowV (colJ ns) last = some ns := by
  unfold rowV
  cases ns with
  | nil => rw [if_pos (show colJ [] = [] from rfl)]
  | cons n r =>
    obtain ⟨c, l, hc, _⟩ := join_start (groups_ok (n :: r)) (by simp)
    rw [if_neg (by unfold colJ; rw [hc]; simp), colJ, split_join 58 _ (by simp) (fun p hp => (groups_ok _ p hp).2), rowP_groups last _ h]
theorem colV_plain (ns : List Nat) (h : ∀ n ∈ ns, n ≤ 65535) (hl : ns.length = 8) : colV (colJ ns) = some ns := by
  unfold colV
  rw [show cc (colJ ns) = none from cc_join _ (groups_ok ns)]
  simp only [rowV_groups true ns h]
  rw [if_pos hl]
theorem colV_short (a b : List Nat) (ha : ∀ n ∈ a, n ≤ 65535) (hb : ∀ n ∈ b, n ≤ 65535) (hl : a.length + b.length ≤ 7) :
    colV (colJ a ++ 58 :: 58 :: colJ b) = some (a ++ List.replicate (8 - a.length - b.length) 0 ++ b) := by
  have h1 : cc (colJ a ++ 58 :: 58 :: colJ b) = some (colJ a).length := cc_two _ _ (groups_ok a)
  have h2 : (colJ a ++ 58 :: 58 :: colJ b).take (colJ a).length = colJ a := List.take_left
  have h3 : (colJ a ++ 58 :: 58 :: colJ b).drop ((colJ a).length + 2) = colJ b := by
    rw [← List.drop_drop, List.drop_left]; rfl
  unfold colV
  rw [h1]
  simp only [h2, h3, rowV_groups false a ha, rowV_groups true b hb]
  rw [if_pos hl]

/-! The longest row of zeros. -/
def zrun : List Nat → Nat
  | [] => 0
  | n :: l => if n = 0 then zrun l + 1 else 0
def best (g : List Nat) : Nat → Nat × Nat
  | 0 => (0, 0)
  | k + 1 => if (best g k).2 < zrun (g.drop k) ∧ 1 < zrun (g.drop k) then (k, zrun (g.drop k)) else best g k
theorem zrun_parts : ∀ l : List Nat, l = List.replicate (zrun l) 0 ++ l.drop (zrun l)
  | [] => rfl
  | n :: l => by
    unfold zrun
    by_cases h : n = 0
    · rw [if_pos h, List.replicate_succ, List.cons_append, List.drop_succ_cons, ← zrun_parts l, h]
    · rw [if_neg h]; simp
theorem zrun_le : ∀ l : List Nat, zrun l ≤ l.length
  | [] => Nat.le_refl _
  | n :: l => by
    unfold zrun
    have := zrun_le l
    split <;> simp <;> omega
theorem best_ok (g : List Nat) : ∀ k, (best g k).2 = 0 ∨ (2 ≤ (best g k).2 ∧ (best g k).2 = zrun (g.drop (best g k).1))
  | 0 => .inl rfl
  | k + 1 => by
    unfold best
    by_cases h : (best g k).2 < zrun (g.drop k) ∧ 1 < zrun (g.drop k)
    · rw [if_pos h]; exact .inr ⟨by simp only; omega, rfl⟩
    · rw [if_neg h]; exact best_ok g k
def showC (g : List Nat) : List UInt8 := if (best g 8).2 = 0 then colJ g else colJ (g.take (best g 8).1) ++ 58 :: 58 :: colJ (g.drop ((best g 8).1 + (best g 8).2))
/-- What is shown is told. -/
theorem col_told (g : List Nat) (h : ∀ n ∈ g, n ≤ 65535) (hl : g.length = 8) : colV (showC g) = some g := by
  unfold showC
  by_cases h0 : (best g 8).2 = 0
  · rw [if_pos h0]; exact colV_plain g h hl
  · rw [if_neg h0]
    obtain ⟨h2, hz⟩ := (best_ok g 8).resolve_left h0
    generalize (best g 8).1 = a at *
    generalize (best g 8).2 = n at *
    have hp := zrun_parts (g.drop a)
    have hle := zrun_le (g.drop a)
    rw [← hz] at hp hle
    rw [List.length_drop, hl] at hle
    rw [List.drop_drop] at hp
    have hta : (g.take a).length = a := by simp; omega
    have htb : (g.drop (a + n)).length = 8 - (a + n) := by simp [hl]
    rw [colV_short _ _ (fun x hx => h x (List.mem_of_mem_take hx)) (fun x hx => h x (List.mem_of_mem_drop hx)) (by omega), hta, htb]
    congr 1
    rw [show 8 - a - (8 - (a + n)) = n by omega, List.append_assoc, ← hp, List.take_append_drop]
/-- How long a text is, and that it has no capital letters. -/
theorem colJ_length : ∀ ns : List Nat, (colJ ns).length + 1 ≤ 5 * ns.length + 1 ∧ (ns ≠ [] → (colJ ns).length + 1 ≤ 5 * ns.length ∧ 2 * ns.length ≤ (colJ ns).length + 1)
  | [] => ⟨by simp [colJ, joinB], fun h => absurd rfl h⟩
  | [n] => by
    have h1 := hexG_length n
    have h2 : (hexG n).length ≠ 0 := fun e => hexG_ne n (List.eq_nil_of_length_eq_zero e)
    have e : colJ [n] = hexG n := rfl
    rw [e]
    simp only [List.length_cons, List.length_nil]
    exact ⟨by omega, fun _ => by omega⟩
  | n :: m :: r => by
    have h1 := hexG_length n
    have h2 : (hexG n).length ≠ 0 := fun e => hexG_ne n (List.eq_nil_of_length_eq_zero e)
    have ih := (colJ_length (m :: r)).2 (by simp)
    have e : colJ (n :: m :: r) = hexG n ++ 58 :: colJ (m :: r) := rfl
    rw [e]
    simp only [List.length_append, List.length_cons] at *
    exact ⟨by omega, fun _ => by omega⟩
theorem showC_length (g : List Nat) (hl : g.length = 8) : 2 ≤ (showC g).length ∧ (showC g).length ≤ 39 := by
  unfold showC
  by_cases h0 : (best g 8).2 = 0
  · rw [if_pos h0]
    have := (colJ_length g).2 (fun e => by rw [e] at hl; simp at hl)
    omega
  · rw [if_neg h0]
    obtain ⟨h2, hz⟩ := (best_ok g 8).resolve_left h0
    have hle := zrun_le (g.drop (best g 8).1)
    rw [← hz, List.length_drop, hl] at hle
    have h3 := (colJ_length (g.take (best g 8).1)).1
    have h4 := (colJ_length (g.drop ((best g 8).1 + (best g 8).2))).1
    rw [List.length_take, hl] at h3
    rw [List.length_drop, hl] at h4
    simp only [List.length_append, List.length_cons]
    omega
theorem colJ_mem {ns : List Nat} : ∀ {b : UInt8}, b ∈ colJ ns → b = 58 ∨ ∃ k, k < 16 ∧ b = hexDig k := by
  induction ns with
  | nil => intro b h; simp [colJ, joinB] at h
  | cons n r ih =>
    intro b h
    cases r with
    | nil => exact .inr (hexG_mem (n := n) h)
    | cons m r =>
      have e : colJ (n :: m :: r) = hexG n ++ 58 :: colJ (m :: r) := rfl
      rw [e] at h
      rcases List.mem_append.1 h with h | h
      · exact .inr (hexG_mem h)
      · rcases List.mem_cons.1 h with h | h
        · exact .inl h
        · exact ih h
theorem showC_small {g : List Nat} {b : UInt8} (h : b ∈ showC g) : ¬ (65 ≤ b.toNat ∧ b.toNat ≤ 70) := by
  have key : b = 58 ∨ ∃ k, k < 16 ∧ b = hexDig k := by
    unfold showC at h
    split at h
    · exact colJ_mem h
    · rcases List.mem_append.1 h with h | h
      · exact colJ_mem h
      · rcases List.mem_cons.1 h with h | h
        · exact .inl h
        · rcases List.mem_cons.1 h with h | h
          · exact .inl h
          · exact colJ_mem h
  rcases key with rfl | ⟨k, hk, rfl⟩
  · decide
  · exact (hexDig_free ⟨k, hk⟩).2.2
/-- All that is told is eight numbers of sixteen bits. -/
theorem rowP_le (last : Bool) : ∀ (ps : List (List UInt8)) (l : List Nat), rowP last ps = some l → ∀ n ∈ l, n ≤ 65535
  | [], l, h, n, hn => by cases h; simp at hn
  | [p], l, h, n, hn => by
    unfold rowP at h
    cases hg : grpOf p with
    | some m =>
      rw [hg] at h
      cases h
      simp at hn
      subst hn
      exact grpOf_le hg
    | none =>
      rw [hg] at h
      simp only at h
      split at h
      · cases h
        have hd : ∀ i, (dotV p i).toNat ≤ 255 := by
          intro i
          unfold dotV
          split
          · unfold numV
            split
            · rename_i h1
              have := (numB_parts h1).2.2.2
              omega
            · simp
          · simp
        have a0 := hd 0
        have a1 := hd 1
        have a2 := hd 2
        have a3 := hd 3
        simp only [List.mem_cons, List.not_mem_nil, or_false] at hn
        rcases hn with rfl | rfl <;> omega
      · cases h
  | p :: q :: r, l, h, n, hn => by
    unfold rowP at h
    cases hg : grpOf p with
    | some m =>
      rw [hg] at h
      simp only at h
      cases hr : rowP last (q :: r) with
      | none => rw [hr] at h; cases h
      | some l' =>
        rw [hr] at h
        cases h
        rcases List.mem_cons.1 hn with rfl | hn
        · exact grpOf_le hg
        · exact rowP_le last (q :: r) l' hr n hn
    | none => rw [hg] at h; cases h

/-! All eight groups, of four digits each, in small or capital letters. -/
def capB (cap : Bool) (b : UInt8) : UInt8 := if cap && decide (97 ≤ b.toNat) then UInt8.ofNat (b.toNat - 32) else b
theorem capB_dig : ∀ (cap : Bool) (i : Fin 16), isHex (capB cap (hexDig i.val)) = true ∧ hexV (capB cap (hexDig i.val)) = i.val ∧ capB cap (hexDig i.val) ≠ 58 := by decide
def longP (cap : Bool) (x y : UInt8) : List UInt8 := (hexL [x, y]).map (capB cap)
theorem longP_dig (cap : Bool) (x y : UInt8) : longP cap x y = [capB cap (hexDig (x.toNat / 16)), capB cap (hexDig (x.toNat % 16)), capB cap (hexDig (y.toNat / 16)), capB cap (hexDig (y.toNat % 16))] := rfl
theorem longP_num (cap : Bool) (x y : UInt8) : hexN (longP cap x y) = x.toNat * 256 + y.toNat ∧ (longP cap x y).all isHex = true ∧ ∀ b ∈ longP cap x y, b ≠ 58 := by
  have hx := UInt8.toNat_lt x
  have hy := UInt8.toNat_lt y
  have e1 := capB_dig cap ⟨x.toNat / 16, by omega⟩
  have e2 := capB_dig cap ⟨x.toNat % 16, by omega⟩
  have e3 := capB_dig cap ⟨y.toNat / 16, by omega⟩
  have e4 := capB_dig cap ⟨y.toNat % 16, by omega⟩
  simp only at e1 e2 e3 e4
  refine ⟨?_, ?_, ?_⟩
  · show 16 * (16 * (16 * (16 * 0 + hexV (capB cap (hexDig (x.toNat / 16)))) + hexV (capB cap (hexDig (x.toNat % 16)))) + hexV (capB cap (hexDig (y.toNat / 16)))) + hexV (capB cap (hexDig (y.toNat % 16))) = _
    rw [e1.2.1, e2.2.1, e3.2.1, e4.2.1]
    omega
  · rw [longP_dig]
    simp only [List.all_cons, List.all_nil, e1.1, e2.1, e3.1, e4.1, Bool.and_true]
  · intro b hb
    rw [longP_dig] at hb
    simp only [List.mem_cons, List.not_mem_nil, or_false] at hb
    rcases hb with rfl | rfl | rfl | rfl
    · exact e1.2.2
    · exact e2.2.2
    · exact e3.2.2
    · exact e4.2.2
theorem longP_grp (cap : Bool) (x y : UInt8) : grpOf (longP cap x y) = some (x.toNat * 256 + y.toNat) := by
  obtain ⟨h1, h2, _⟩ := longP_num cap x y
  unfold grpOf
  rw [h2, h1, if_neg (by rw [longP_dig]; simp)]
theorem longP_five (cap : Bool) (x y : UInt8) : grpOf (48 :: longP cap x y) = none := by
  unfold grpOf
  rw [if_pos (by rw [longP_dig]; simp)]
theorem parts_long (cap : Bool) (xs : List (UInt8 × UInt8)) : partsOk (xs.map fun p => longP cap p.1 p.2) := by
  intro p hp
  obtain ⟨q, _, rfl⟩ := List.mem_map.1 hp
  exact ⟨by rw [longP_dig]; simp, (longP_num cap _ _).2.2⟩
theorem rowP_long (cap last : Bool) : ∀ (xs : List (UInt8 × UInt8)), rowP last (xs.map fun p => longP cap p.1 p.2) = some (xs.map fun p => p.1.toNat * 256 + p.2.toNat)
  | [] => rfl
  | [p] => by
    show (match grpOf (longP cap p.1 p.2) with | some n => some [n] | none => _) = _
    rw [longP_grp]
    rfl
  | p :: q :: r => by
    show (match grpOf (longP cap p.1 p.2) with | some n => (rowP last ((q :: r).map fun (p : UInt8 × UInt8) => longP cap p.1 p.2)).map (n :: ·) | none => none) = _
    rw [longP_grp, rowP_long cap last (q :: r)]
    rfl
/-- The text of all groups. -/
def longT (cap : Bool) (xs : List (UInt8 × UInt8)) : List UInt8 := joinB 58 (xs.map fun p => longP cap p.1 p.2)
theorem rowV_parts (last : Bool) (ps : List (List UInt8)) (h : partsOk ps) (hn : ps ≠ []) : rowV (joinB 58 ps) last = rowP last ps := by
  obtain ⟨c, l, hc, _⟩ := join_start h hn
  unfold rowV
  rw [if_neg (by rw [hc]; simp), split_join 58 ps hn (fun p hp => (h p hp).2)]
theorem col_long (cap : Bool) (xs : List (UInt8 × UInt8)) (h : xs.length = 8) : colV (longT cap xs) = some (xs.map fun p => p.1.toNat * 256 + p.2.toNat) := by
  unfold colV longT
  rw [cc_join _ (parts_long cap xs), rowV_parts true _ (parts_long cap xs) (fun e => by have := congrArg List.length e; simp at this; rw [this] at h; simp at h), rowP_long]
  simp [h]
theorem join_snoc (d : UInt8) : ∀ (ps : List (List UInt8)) (p : List UInt8), ps ≠ [] → joinB d (ps ++ [p]) = joinB d ps ++ d :: p
  | [], _, h => absurd rfl h
  | [_], _, _ => rfl
  | a :: b :: r, p, _ => by
    show a ++ d :: joinB d ((b :: r) ++ [p]) = (a ++ d :: joinB d (b :: r)) ++ d :: p
    rw [join_snoc d (b :: r) p (by simp), List.append_assoc]
    rfl
theorem rowP_length (last : Bool) : ∀ (ps : List (List UInt8)) (l : List Nat), (∀ p ∈ ps, (grpOf p).isSome = true) → rowP last ps = some l → l.length = ps.length
  | [], l, _, h => by cases h; rfl
  | [p], l, hs, h => by
    unfold rowP at h
    obtain ⟨n, hn⟩ := Option.isSome_iff_exists.1 (hs p (by simp))
    rw [hn] at h
    cases h
    rfl
  | p :: q :: r, l, hs, h => by
    unfold rowP at h
    obtain ⟨n, hn⟩ := Option.isSome_iff_exists.1 (hs p (by simp))
    rw [hn] at h
    simp only at h
    cases hr : rowP last (q :: r) with
    | none => rw [hr] at h; cases h
    | some l' =>
      rw [hr] at h
      cases h
      have := rowP_length last (q :: r) l' (fun x hx => hs x (by simp [hx])) hr
      simp only [List.length_cons] at *
      omega
/-- With one more they are none. -/
theorem col_long_more (cap : Bool) (xs : List (UInt8 × UInt8)) (h : xs.length = 8) : colV (longT cap xs ++ [58, 48]) = none := by
  have hne : (xs.map fun p => longP cap p.1 p.2) ≠ [] := fun e => by have := congrArg List.length e; simp at this; rw [this] at h; simp at h
  have e : longT cap xs ++ [58, 48] = joinB 58 ((xs.map fun p => longP cap p.1 p.2) ++ [[48]]) := (join_snoc 58 _ [48] hne).symm
  have hok : partsOk ((xs.map fun p => longP cap p.1 p.2) ++ [[48]]) := by
    intro p hp
    rcases List.mem_append.1 hp with hp | hp
    · exact parts_long cap xs p hp
    · simp at hp; subst hp; exact ⟨by simp, fun b hb => by simp at hb; subst hb; decide⟩
  unfold colV
  rw [e, cc_join _ hok, rowV_parts true _ hok (by simp)]
  cases hr : rowP true ((xs.map fun p => longP cap p.1 p.2) ++ [[48]]) with
  | none => rfl
  | some l =>
    have hl := rowP_length true _ l (fun p hp => by
      rcases List.mem_append.1 hp with hp | hp
      · obtain ⟨q, _, rfl⟩ := List.mem_map.1 hp
        rw [longP_grp]; rfl
      · simp at hp; subst hp; decide) hr
    simp only [List.length_append, List.length_map, h, List.length_cons, List.length_nil] at hl
    simp only
    rw [if_neg (by omega)]
theorem col_long_front (cap : Bool) (xs : List (UInt8 × UInt8)) (h : xs.length = 8) : colV (48 :: longT cap xs) = none := by
  match xs, h with
  | p :: q :: r, h =>
    have e : 48 :: longT cap (p :: q :: r) = joinB 58 ((48 :: longP cap p.1 p.2) :: (longP cap q.1 q.2 :: (r.map fun (p : UInt8 × UInt8) => longP cap p.1 p.2))) := rfl
    have hok : partsOk ((48 :: longP cap p.1 p.2) :: (longP cap q.1 q.2 :: (r.map fun (p : UInt8 × UInt8) => longP cap p.1 p.2))) := by
      intro x hx
      rcases List.mem_cons.1 hx with rfl | hx
      · refine ⟨by simp, fun b hb => ?_⟩
        rcases List.mem_cons.1 hb with rfl | hb
        · decide
        · exact (longP_num cap _ _).2.2 b hb
      · exact parts_long cap (q :: r) x hx
    unfold colV
    rw [e, cc_join _ hok, rowV_parts true _ hok (by simp)]
    have hr : rowP true ((48 :: longP cap p.1 p.2) :: (longP cap q.1 q.2 :: (r.map fun (p : UInt8 × UInt8) => longP cap p.1 p.2))) = none := by
      unfold rowP
      rw [longP_five]
    rw [hr]
end Go.Proofs.YtlbgmpjeckigjaaDoor

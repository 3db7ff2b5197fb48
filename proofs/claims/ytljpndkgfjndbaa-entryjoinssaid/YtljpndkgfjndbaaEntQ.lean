/- Stacks of entries: what is put is told again. No conditions. -/
import Derived.Test.YtljpndkgfjndbaaEnt5
import Derived.Test.YtljpndkgfjndbaaEntP
namespace Go.Proofs.Ytljpndkgfjndbaa
open Go

theorem botL_cons (e : Ent) (r : List Ent) : botL (e :: r) = e.setB r.isEmpty :: botL r := by
  unfold botL
  rw [List.mapIdx_cons]
  refine congr (congrArg List.cons ?_) ?_
  · cases r <;> simp
  · simp
theorem putBytes_cons (e : Ent) (r : List Ent) : putBytes (e :: r) = (e.setB r.isEmpty).bytes ++ putBytes r := by
  rw [putBytes, botL_cons, List.flatMap_cons]; rfl
theorem putBytes_length (l : List Ent) : (putBytes l).length = 4 * l.length := by rw [putBytes, flat_length, botL_length]
theorem unp_bytes {e : Ent} (h : e.ok) (g : e.good = true) (m : List UInt8) : unpE (e.bytes ++ m) = e ∧ unpC (e.bytes ++ m) = 0 := by
  have hl : 4 ≤ (e.bytes ++ m).length := by rw [List.length_append, bytes_length]; omega
  have ht : (e.bytes ++ m).take 4 = e.bytes := by
    rw [List.take_append_of_le_length (by rw [bytes_length]; omega), List.take_of_length_le (by rw [bytes_length]; omega)]
  have hn := Ent.num_lt h g
  refine ⟨?_, by unfold unpC; rw [if_pos hl]⟩
  unfold unpE
  rw [if_pos hl, ht, Ent.bytes, numOf_lowB, Nat.mod_eq_of_lt (by omega), entOf_num h g]
theorem stk_put : ∀ (l : List Ent) (n : Nat) (m : List UInt8), l ≠ [] → l.length ≤ n → (∀ e ∈ l, e.ok) → l.all Ent.good = true → stk n (putBytes l ++ m) = (botL l, 0)
  | [], _, _, h, _, _, _ => absurd rfl h
  | _ :: _, 0, _, _, h, _, _ => by simp at h
  | e :: r, n + 1, m, _, hl, hok, hg => by
    rw [List.all_cons, Bool.and_eq_true] at hg
    have h1 := unp_bytes (e := e.setB r.isEmpty) (setB_ok (hok e (by simp)) _) hg.1 (putBytes r ++ m)
    rw [putBytes_cons, List.append_assoc]
    unfold stk
    rw [h1.1, h1.2, if_pos rfl]
    cases r with
    | nil => rw [if_pos (show (e.setB ([] : List Ent).isEmpty).B = true from rfl)]; rfl
    | cons f r =>
      rw [if_neg (by simp [Ent.setB]), List.drop_append, List.drop_eq_nil_of_le (by rw [bytes_length]; omega), bytes_length, Nat.sub_self, List.drop_zero, List.nil_append]
      rw [stk_put (f :: r) n m (by simp) (by simpa using hl) (fun x hx => hok x (by simp [hx])) hg.2, botL_cons e]
      rfl
theorem stk_short : ∀ (l : List Ent) (n : Nat), l ≠ [] → l.length ≤ n → (∀ e ∈ l, e.ok) → l.all Ent.good = true → stk n ((putBytes l).take (4 * l.length - 1)) = ([], 10)
  | [], _, h, _, _, _ => absurd rfl h
  | _ :: _, 0, _, h, _, _ => by simp at h
  | e :: r, n + 1, _, hl, hok, hg => by
    rw [List.all_cons, Bool.and_eq_true] at hg
    rw [putBytes_cons]
    cases r with
    | nil =>
      have h1 : unpC (((e.setB ([] : List Ent).isEmpty).bytes ++ putBytes []).take (4 * [e].length - 1)) = 10 := by
        unfold unpC
        rw [if_neg (by rw [List.length_take]; simp only [List.length_cons, List.length_nil]; omega)]
      unfold stk
      rw [h1, if_neg (by decide)]
    | cons f r =>
      have e1 : ((e.setB (f :: r).isEmpty).bytes ++ putBytes (f :: r)).take (4 * (e :: f :: r).length - 1) = (e.setB (f :: r).isEmpty).bytes ++ (putBytes (f :: r)).take (4 * (f :: r).length - 1) := by
        rw [List.take_append, List.take_of_length_le (by rw [bytes_length]; simp; omega), bytes_length]
        congr 2
      rw [e1]
      have h1 := unp_bytes (e := e.setB (f :: r).isEmpty) (setB_ok (hok e (by simp)) _) hg.1 ((putBytes (f :: r)).take (4 * (f :: r).length - 1))
      unfold stk
      rw [h1.1, h1.2, if_pos rfl, if_neg (by simp [Ent.setB]), List.drop_append, List.drop_eq_nil_of_le (by rw [bytes_length]; omega), bytes_length, Nat.sub_self, List.drop_zero, List.nil_append]
      rw [stk_short (f :: r) n (by simp) (by simpa using hl) (fun x hx => hok x (by simp [hx])) hg.2]
      rfl
theorem alike_setB (e : Ent) (b : Bool) : alikeE e (e.setB b) = true := by simp [alikeE, Ent.setB]
theorem alike_setB' (e : Ent) (b : Bool) : alikeE (e.setB b) e = true := by simp [alikeE, Ent.setB]
theorem alike_bot : ∀ l : List Ent, allE alikeE l (botL l) = true
  | [] => rfl
  | e :: r => by
    rw [botL_cons]
    show (alikeE e (e.setB r.isEmpty) && allE alikeE r (botL r)) = true
    rw [alike_setB, alike_bot r]
    rfl
/-- One stack on top of another. -/
theorem botL_append : ∀ (a b : List Ent), b ≠ [] → botL (a ++ b) = a.map (fun e => e.setB false) ++ botL b
  | [], b, _ => by simp
  | e :: a, b, h => by
    rw [List.cons_append, botL_cons, botL_append a b h]
    have : (a ++ b).isEmpty = false := by cases a <;> cases b <;> simp_all
    rw [this]
    rfl
theorem putBytes_append (a b : List Ent) (h : b ≠ []) : (putBytes (a ++ b)).drop (4 * a.length) = putBytes b := by
  rw [putBytes, botL_append a b h, List.flatMap_append, List.drop_append, List.drop_eq_nil_of_le (by rw [flat_length]; simp), flat_length, List.nil_append, List.length_map, Nat.sub_self, List.drop_zero]
  rfl
theorem alike_low : ∀ (a : List Ent), allE alikeE (a.map (fun e => e.setB false)) a = true
  | [] => rfl
  | e :: a => by
    show (alikeE (e.setB false) e && allE alikeE (a.map (fun e => e.setB false)) a) = true
    rw [alike_setB', alike_low a]
    rfl
theorem bot_take (a b : List Ent) (h : b ≠ []) : (botL (a ++ b)).take a.length = a.map (fun e => e.setB false) := by
  rw [botL_append a b h, List.take_append_of_le_length (by simp), List.take_of_length_le (by simp)]
end Go.Proofs.Ytljpndkgfjndbaa

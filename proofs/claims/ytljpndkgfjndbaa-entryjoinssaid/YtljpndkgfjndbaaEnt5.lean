/- Stack of package entry: the loop over a function. Proved: what it returns, for every row of bytes. -/
import Derived.Test.YtljpndkgfjndbaaEnt4
import Derived.Test.YtljpndkgfjndbaaEntB
import Derived.Scope
import Derived.Maps.AppendAt
namespace Go.Proofs.Ytljpndkgfjndbaa
open Go Go.RowKit Go.Shelf
attribute [local go_sem] Oper.semAt_some

def Ent.four (e : Ent) : List Value := [.int .i64 e.L, .int .u8 e.C, .bool e.B, .int .u8 e.T]
def entVals (l : List Ent) : List Value := l.flatMap Ent.four
theorem info23 : (Try.prog.info? 23).map (fun i => (i.zero, i.size, i.bytes)) = some (some (.agg #[.int .i64 0, .int .u8 0, .bool false, .int .u8 0]), 4, 16) := by kernel_rfl

theorem boxed_from {W W' : World} {row : Option Nat} {b B : Nat} {t : TypeId} {v : Value} (h : Boxed W B t v) (hg : W.grownBy W' row) (hr : ∀ r, row = some r → b ≤ r ∧ ∃ o : Obj, W.heap[r]? = some o ∧ o.isCells = false) : Boxed W' B t v :=
  boxed_own B t (fun (_ : Unit) => v) () W W' row h hg (fun r e => (hr r e).2)
theorem row_from {W W' : World} {row : Option Nat} {b B n₀ size k : Nat} {t e : TypeId} {v : Value} {xs : List Value} (hv : Boxed W B t v) (h : W.ownsRow n₀ e size v k xs) (hg : W.grownBy W' row)
    (hr : ∀ r, row = some r → b ≤ r ∧ ∃ o : Obj, W.heap[r]? = some o ∧ o.isCells = false) : W'.ownsRow n₀ e size v k xs := by
  obtain ⟨v', h1, h2, rfl⟩ := holdsRow_own n₀ B t e size (fun (_ : Unit) => k) (fun _ => xs) (fun _ u => u = v) () W W' row ⟨v, hv, h, rfl⟩ hg (fun r e => (hr r e).2)
  exact h2

/-- Between two rounds: what has come lies in the box; the results' boxes are as they were. -/
structure StkI (w : World) (b : Nat) (pre : List (Ent × Int)) (W : World) : Prop where
  row : ∃ v, Boxed W (b + 1 + 1 + 1) 34 v ∧ W.ownsRow b 23 4 v pre.length (entVals (pre.map (·.1)))
  r0 : Boxed W b 34 (.slice none 0 0)
  r1 : Boxed W (b + 1) 3 (.int .i64 0)
  r2 : Boxed W (b + 1 + 1) 26 (.int .i64 0)
  below : Below b w W
theorem StkI.own {w : World} {b B : Nat} (hb : b ≤ w.heap.size) (hB : b ≤ B) {pre : List (Ent × Int)} : OwnFrom B (fun (_ : Unit) W => StkI w b pre W) := by
  rintro s X Y row ⟨⟨v, h1, h2⟩, h3, h4, h5, h6⟩ hg hr
  exact ⟨⟨v, boxed_from h1 hg hr, row_from h1 h2 hg hr⟩, boxed_from h3 hg hr, boxed_from h4 hg hr, boxed_from h5 hg hr, ownFrom_below hb hB () X Y row h6 hg hr⟩
/-- A round has returned an error. -/
structure StkX (w : World) (b : Nat) (c : Int) (W : World) : Prop where
  r0 : Boxed W b 34 (.slice none 0 0)
  r1 : Boxed W (b + 1) 3 (.int .i64 0)
  r2 : Boxed W (b + 1 + 1) 26 (.int .i64 c)
  below : Below b w W
theorem StkX.own {w : World} {b B : Nat} (hb : b ≤ w.heap.size) (hB : b ≤ B) {c : Int} : OwnFrom B (fun (_ : Unit) W => StkX w b c W) := by
  rintro s X Y row ⟨h3, h4, h5, h6⟩ hg hr
  exact ⟨boxed_from h3 hg hr, boxed_from h4 hg hr, boxed_from h5 hg hr, ownFrom_below hb hB () X Y row h6 hg hr⟩
/-- All that has come is right, and no Bottom. -/
def goodPre (pre : List (Ent × Int)) : Prop := pre.length < 16 ∧ ∀ x ∈ pre, x.2 = 0 ∧ x.1.B = false
/-- How a round leaves the loop. -/
def stkIx (w : World) (b : Nat) (c : Code) (pre : List (Ent × Int)) (W : World) : Prop :=
  ∃ pre0 x, pre = pre0 ++ [x] ∧ goodPre pre0 ∧
    ((c = .ret ∧ x.2 ≠ 0 ∧ StkX w b x.2 W) ∨ (c = .exit 0 ∧ x.2 = 0 ∧ x.1.B = true ∧ StkI w b pre W) ∨ (c = .ret ∧ x.2 = 0 ∧ x.1.B = false ∧ pre.length = 16 ∧ StkX w b 11 W))
theorem stkIx_own {w : World} {b B : Nat} (hb : b ≤ w.heap.size) (hB : b ≤ B) (c : Code) : OwnFrom B (stkIx w b c) := by
  rintro s X Y row ⟨pre0, x, h1, h2, h3⟩ hg hr
  refine ⟨pre0, x, h1, h2, ?_⟩
  rcases h3 with ⟨e, h4, h5⟩ | ⟨e, h4, h5, h6⟩ | ⟨e, h4, h5, h6, h7⟩
  · exact .inl ⟨e, h4, StkX.own hb hB () X Y row h5 hg hr⟩
  · exact .inr (.inl ⟨e, h4, h5, StkI.own hb hB () X Y row h6 hg hr⟩)
  · exact .inr (.inr ⟨e, h4, h5, h6, StkX.own hb hB () X Y row h7 hg hr⟩)
/-- What the loop's variables are. -/
def stkAx (b : Nat) (a : Option Addr) (len cap : Nat) (x : Ent × Int) (a' : Act) (W : World) : Prop :=
  ∃ Bx v, b + 1 + 1 + 1 < Bx ∧ W.heap[Bx]? = some (.cells #[.int .i64 x.1.L, .int .u8 x.1.C, .bool x.1.B, .int .u8 x.1.T] 23 (0, 0)) ∧ Boxed W (b + 1 + 1 + 1) 34 v ∧ some Bx ≠ v.ownBlock ∧
    a' = { tmps := #[.slice a len cap, undef, .pointer (some ⟨b, 0, none⟩), .pointer (some ⟨b + 1, 0, none⟩), .pointer (some ⟨b + 1 + 1, 0, none⟩), .pointer (some ⟨b + 1 + 1 + 1, 0, none⟩), .pointer (some ⟨Bx, 0, none⟩), .int .i64 x.2, .slice a len cap,
      .func (.func 31) #[] #[.pointer (some ⟨b + 1 + 1 + 1 + 1, 0, none⟩)], .agg #[.int .i64 x.1.L, .int .u8 x.1.C, .bool x.1.B, .int .u8 x.1.T], .int .i64 x.2, undef, undef, undef, undef, undef, undef, undef, undef, undef, undef, undef, undef, undef, undef, undef, undef, undef, undef], defers := [] }
theorem stkAx_own {b B : Nat} {a : Option Addr} {len cap : Nat} (x : Ent × Int) (a' : Act) : OwnFrom B (fun (_ : Unit) W => stkAx b a len cap x a' W) := by
  rintro s X Y row ⟨Bx, v, h1, h2, h3, h4, h5⟩ hg hr
  refine ⟨Bx, v, h1, (hg.block Bx (Array.getElem?_eq_some_iff.1 h2).1 (fun e => ?_)).trans h2, boxed_from h3 hg hr, h4, h5⟩
  obtain ⟨_, o, ho, hc⟩ := hr Bx e.symm
  rw [h2] at ho; cases ho; cases hc

theorem own_lt {W : World} {n₀ e size k : Nat} {v : Value} {xs : List Value} (h : W.ownsRow n₀ e size v k xs) : some W.heap.size ≠ v.ownBlock := by
  rcases h.2 with ⟨rfl, _⟩ | ⟨g, cap, cur, rfl, _, hg, _⟩
  · simp [Value.ownBlock]
  · have := (Array.getElem?_eq_some_iff.1 hg).1
    simp [Value.ownBlock]; omega
theorem four_cells {W : World} {Bx : Nat} {L C T : Int} {B : Bool} {t : TypeId} {z : Nat × Nat} (h : W.heap[Bx]? = some (.cells #[.int .i64 L, .int .u8 C, .bool B, .int .u8 T] t z)) :
    W.cell? ⟨Bx, 0, none⟩ = some (.int .i64 L) ∧ W.cell? ⟨Bx, 1, none⟩ = some (.int .u8 C) ∧ W.cell? ⟨Bx, 2, none⟩ = some (.bool B) ∧ W.cell? ⟨Bx, 3, none⟩ = some (.int .u8 T) := by
  simp [World.cell?, h]
theorem four_new (W : World) (e : Ent) (t : TypeId) : ∀ j u, e.four[j]? = some u → (W.alloc (.cells #[.int .i64 e.L, .int .u8 e.C, .bool e.B, .int .u8 e.T] t)).cell? ((⟨W.heap.size, 0, none⟩ : Addr).add j) = some u := by
  intro j u hj
  rw [plain_add]
  match j, hj with
  | 0, hj => simp [Ent.four] at hj; subst hj; simp
  | 1, hj => simp [Ent.four] at hj; subst hj; simp
  | 2, hj => simp [Ent.four] at hj; subst hj; simp
  | 3, hj => simp [Ent.four] at hj; subst hj; simp
  | j + 4, hj => simp [Ent.four] at hj
theorem four_one (e : Ent) : ∀ u ∈ e.four, u.oneCell' = true := by
  intro u hu
  simp only [Ent.four, List.mem_cons, List.not_mem_nil, or_false] at hu
  rcases hu with rfl | rfl | rfl | rfl <;> rfl
theorem entVals_snoc (l : List Ent) (e : Ent) : entVals (l ++ [e]) = entVals l ++ e.four := by simp [entVals]
theorem box_same {W : World} {B : Nat} {t t' : TypeId} {v v' : Value} (h : Boxed W B t v) (h' : Boxed W B t' v') : v = v' := by
  unfold Boxed at h h'
  rw [h] at h'
  simp at h'
  exact h'.1
theorem box_block {W w1 : World} {Bx : Nat} {o : Obj} {row : Option Nat} (h : W.heap[Bx]? = some o) (hg : W.grownBy w1 row) (hne : some Bx ≠ row) : w1.heap[Bx]? = some o := (hg.block Bx (Array.getElem?_eq_some_iff.1 h).1 hne).trans h

/-- An entry is appended: all that the loop keeps. -/
theorem StkI.appended {w W w1 : World} {b : Nat} {pre : List (Ent × Int)} {x : Ent × Int} {v v' : Value} {tmp : Obj} (hI : StkI w b pre W) (hv : Boxed W (b + 1 + 1 + 1) 34 v) (hn : b ≤ W.heap.size)
    (hown' : w1.ownsRow b 23 4 v' (pre.length + 1) (entVals (pre.map (·.1)) ++ x.1.four)) (hgrow : (W.alloc tmp).grownBy w1 v.ownBlock) :
    Boxed w1 (b + 1 + 1 + 1) 34 v ∧ StkI w b (pre ++ [x]) (w1.setCell ⟨b + 1 + 1 + 1, 0, none⟩ v') ∧ KeepsOthers W (w1.setCell ⟨b + 1 + 1 + 1, 0, none⟩ v') ∧ Below b W (w1.setCell ⟨b + 1 + 1 + 1, 0, none⟩ v') := by
  obtain ⟨⟨u, hu, hrow⟩, h0, h1, h2, hB⟩ := hI
  obtain rfl := box_same hv hu
  obtain ⟨g1, g2, g3, g4, g5⟩ := hv.appended (by decide) hrow hn (by omega) hown' hgrow
  refine ⟨g1, ⟨⟨v', g2, ?_⟩, ?_, ?_, ?_, hB.trans g5⟩, g4, g5⟩
  · rw [List.map_append, List.map_singleton, entVals_snoc, List.length_append, List.length_singleton]; exact g3
  · exact ((h0.alloc tmp).kept hgrow (h0.not_row (by decide) hrow)).other (by omega) _
  · exact ((h1.alloc tmp).kept hgrow (h1.not_row (by decide) hrow)).other (by omega) _
  · exact ((h2.alloc tmp).kept hgrow (h2.not_row (by decide) hrow)).other (by omega) _
theorem StkX.stored {w W : World} {b : Nat} {pre : List (Ent × Int)} (hI : StkI w b pre W) (c : Int) :
    StkX w b c (((W.setCell ⟨b, 0, none⟩ (.slice none 0 0)).setCell ⟨b + 1, 0, none⟩ (.int .i64 0)).setCell ⟨b + 1 + 1, 0, none⟩ (.int .i64 c)) := by
  obtain ⟨_, h0, h1, h2, hB⟩ := hI
  exact ⟨((h0.set _).other (by omega) _).other (by omega) _, ((h1.other (by omega) _).set _).other (by omega) _, (((h2.other (by omega) _).other (by omega) _).set _),
    ((hB.setCell (p := ⟨b, 0, none⟩) (by simp) _).setCell (p := ⟨b + 1, 0, none⟩) (by simp) _).setCell (p := ⟨b + 1 + 1, 0, none⟩) (by simp; omega) _⟩

/-! What Stack answers. -/
def consE (e : Ent) (s : List Ent × Int) : List Ent × Int := if s.2 = 0 then (e :: s.1, 0) else ([], s.2)
def appE (p : List Ent) (s : List Ent × Int) : List Ent × Int := if s.2 = 0 then (p ++ s.1, 0) else ([], s.2)
def stk : Nat → List UInt8 → List Ent × Int
  | 0, _ => ([], 11)
  | n + 1, l => if unpC l = 0 then (if (unpE l).B then ([unpE l], 0) else consE (unpE l) (stk n (l.drop 4))) else ([], unpC l)
theorem appE_cons (p : List Ent) (e : Ent) (s : List Ent × Int) : appE p (consE e s) = appE (p ++ [e]) s := by
  unfold appE consE
  by_cases h : s.2 = 0
  · simp [h]
  · simp [h]
theorem stk_pre (bs : List UInt8) : ∀ k m, (∀ x ∈ uptoE bs k, x.2 = 0 ∧ x.1.B = false) → stk (k + m) bs = appE ((uptoE bs k).map (·.1)) (stk m (bs.drop (4 * k)))
  | 0, m, _ => by
    have h : ∀ n l, (stk n l).2 = 0 ∨ (stk n l).1 = [] := by
      intro n
      induction n with
      | zero => intro l; exact .inr rfl
      | succ n ih =>
        intro l
        unfold stk
        by_cases h1 : unpC l = 0
        · rw [if_pos h1]
          by_cases h2 : (unpE l).B = true
          · rw [if_pos h2]; exact .inl rfl
          · rw [if_neg h2]
            unfold consE
            by_cases h3 : (stk n (l.drop 4)).2 = 0
            · rw [if_pos h3]; exact .inl rfl
            · rw [if_neg h3]; exact .inr rfl
        · rw [if_neg h1]; exact .inr rfl
    have := h m bs
    simp only [Nat.zero_add, Nat.mul_zero, List.drop_zero, uptoE, List.range_zero, List.map_nil]
    unfold appE
    by_cases h2 : (stk m bs).2 = 0
    · rw [if_pos h2]; simp [← h2]
    · rw [if_neg h2]
      have h3 := this.resolve_left h2
      rw [← h3]
  | k + 1, m, hg => by
    have hk := stk_pre bs k (m + 1) (fun x hx => hg x (by rw [uptoE_succ]; exact List.mem_append_left _ hx))
    have hi := hg (itemE bs k) (by rw [uptoE_succ]; simp)
    rw [show k + 1 + m = k + (m + 1) by omega, hk]
    have e1 : stk (m + 1) (bs.drop (4 * k)) = consE (itemE bs k).1 (stk m (bs.drop (4 * (k + 1)))) := by
      have h1 : unpC (bs.drop (4 * k)) = 0 := hi.1
      have h2 : (unpE (bs.drop (4 * k))).B = false := hi.2
      show (if unpC (bs.drop (4 * k)) = 0 then (if (unpE (bs.drop (4 * k))).B then ([unpE (bs.drop (4 * k))], 0) else consE (unpE (bs.drop (4 * k))) (stk m ((bs.drop (4 * k)).drop 4))) else ([], unpC (bs.drop (4 * k)))) = _
      rw [if_pos h1, h2, List.drop_drop, show 4 * k + 4 = 4 * (k + 1) by omega]
      rfl
    rw [e1, appE_cons, uptoE_succ, List.map_append, List.map_singleton]
/-- A part of what comes. -/
theorem pre_upto {bs : List UInt8} {pre0 : List (Ent × Int)} {x : Ent × Int} (h : pre0 ++ [x] <+: itemsE bs) : pre0 = uptoE bs pre0.length ∧ x = itemE bs pre0.length := by
  have hl : pre0.length + 1 ≤ bs.length / 4 + 1 := by
    have := h.length_le
    rw [itemsE, uptoE_length] at this
    simpa using this
  have h2 : pre0 ++ [x] = uptoE bs (pre0.length + 1) := by
    have h3 := List.prefix_of_prefix_length_le h (uptoE_prefix bs hl) (by rw [uptoE_length]; simp)
    exact h3.eq_of_length (by rw [uptoE_length]; simp)
  rw [uptoE_succ] at h2
  obtain ⟨h4, h5⟩ := List.append_inj h2 (by rw [uptoE_length])
  exact ⟨h4, by simpa using h5⟩
theorem items_last (bs : List UInt8) : ¬ goodPre (itemsE bs) := by
  intro h
  have h1 := (h.2 (itemE bs (bs.length / 4)) (by rw [itemsE, uptoE_succ]; simp)).1
  unfold itemE unpC at h1
  simp only at h1
  rw [if_neg (by simp; omega)] at h1
  exact absurd h1 (by decide)
theorem unpE_ok (l : List UInt8) : (unpE l).ok := by
  unfold unpE
  split
  · exact entOf_ok _
  · constructor <;> decide
theorem entVals_length (l : List Ent) : (entVals l).length = l.length * 4 := by
  induction l with
  | nil => rfl
  | cons e l ih => simp only [entVals, List.flatMap_cons, List.length_append] at *; rw [ih]; simp [Ent.four]; omega
theorem entVals_get : ∀ (l : List Ent) (i j : Nat) (e : Ent), l[i]? = some e → j < 4 → (entVals l)[i * 4 + j]? = e.four[j]?
  | e :: l, 0, j, e', h, hj => by
    simp at h
    subst h
    simp only [entVals, List.flatMap_cons, Nat.zero_mul, Nat.zero_add]
    rw [List.getElem?_append_left (by simp [Ent.four]; omega)]
  | e :: l, i + 1, j, e', h, hj => by
    simp at h
    have := entVals_get l i j e' h hj
    simp only [entVals, List.flatMap_cons]
    rw [List.getElem?_append_right (by simp [Ent.four]; omega)]
    rw [show (i + 1) * 4 + j - e.four.length = i * 4 + j by simp [Ent.four]; omega]
    exact this
  | [], i, j, e', h, hj => by simp at h
theorem IsE.of_owned {w : World} {base : Nat} {e : TypeId} {g n cap : Nat} {l : List Ent} (h : w.ownsRow base e 4 (.slice (some ⟨g, 0, none⟩) n cap) n (entVals l)) (hok : ∀ e ∈ l, e.ok) :
    IsE w (.slice (some ⟨g, 0, none⟩) n cap) l := by
  have hn : n = l.length := by have := h.1; rw [entVals_length] at this; omega
  subst hn
  obtain ⟨_, ⟨h1, _⟩ | ⟨g2, cap2, cur, he, _, hg, h3, h4, hc, hx⟩⟩ := h
  · cases h1
  · simp only [Value.slice.injEq, Option.some.injEq, Addr.mk.injEq, and_true, true_and] at he
    obtain ⟨rfl, rfl⟩ := he
    refine ⟨_, _, rfl, h3, h4, hok, fun _ => ⟨g, 0, rfl, (Array.getElem?_eq_some_iff.1 hg).1, fun i e hi => ?_⟩⟩
    have hil : i < l.length := (List.getElem?_eq_some_iff.1 hi).1
    have key : ∀ j, j < 4 → w.cell? ⟨g, 0 + i * 4 + j, none⟩ = e.four[j]? := by
      intro j hj
      rw [cell_of_row w g (0 + i * 4 + j) cur _ _ hg, ← entVals_get l i j e hi hj, ← hx, List.getElem?_take, if_pos (by omega)]
      simp
    exact ⟨key 0 (by omega), key 1 (by omega), key 2 (by omega), key 3 (by omega)⟩

set_option maxRecDepth 100000 in
set_option maxHeartbeats 1000000 in
theorem stack_any (a : Option Addr) (len cap : Nat) (bs : List UInt8) (w : World) (hv : IsB w (.slice a len cap) bs) :
    Calls Try.prog 13 #[.slice a len cap] w fun x w' => (∃ a' n' c', x = .returned (.tuple #[.slice a' n' c', .int .i64 (4 * (stk 16 bs).1.length : Nat), .int .i64 (stk 16 bs).2]) ∧ IsE w' (.slice a' n' c') (stk 16 bs).1) ∧ Below w.heap.size w w' := by
  refine (callsIn_wide (n := 5)).1 ?_
  refine callsIn_of_wp_marks Try.func13 rfl trivial ?_ rfl
  simp only [Try.ntmps13, List.size_toArray, List.length_cons, List.length_nil, Nat.reduceAdd, Nat.reduceSub, Array.replicate_succ, Array.replicate_zero, List.push_toArray, List.append_toArray, List.nil_append, List.cons_append]
  gi_wp2
  refine wpIn_wide.2 (wp_scope_straight ((wpIn_wide (n := 5)).1 ?_))
  gi_wp2
  refine wpIn_label ?_
  gi_wp2_with (refine ⟨trivial, ?_⟩; gi_at_call 24; refine (entries_in _ _ _ _ _).mono ?_; rintro e w' ⟨rfl, rfl⟩)
  have hB0 : Below w.heap.size w (((((w.alloc (.cells #[.slice none 0 0] 34)).alloc (.cells #[.int .i64 0] 3)).alloc (.cells #[.int .i64 0] 26)).alloc (.cells #[.slice none 0 0] 34)).alloc (.cells #[.slice a len cap] 24)) :=
    (((((Below.refl _ w).alloc (Nat.le_refl _) _).alloc (by simp) _).alloc (by simp; omega) _).alloc (by simp; omega) _).alloc (by simp; omega) _
  have b0 := ((((Boxed.new w 34 (.slice none 0 0)).alloc (.cells #[.int .i64 0] 3)).alloc (.cells #[.int .i64 0] 26)).alloc (.cells #[.slice none 0 0] 34)).alloc (.cells #[.slice a len cap] 24)
  have b1 := (((Boxed.new (w.alloc (.cells #[.slice none 0 0] 34)) 3 (.int .i64 0)).alloc (.cells #[.int .i64 0] 26)).alloc (.cells #[.slice none 0 0] 34)).alloc (.cells #[.slice a len cap] 24)
  have b2 := ((Boxed.new ((w.alloc (.cells #[.slice none 0 0] 34)).alloc (.cells #[.int .i64 0] 3)) 26 (.int .i64 0)).alloc (.cells #[.slice none 0 0] 34)).alloc (.cells #[.slice a len cap] 24)
  have b3 := (Boxed.new (((w.alloc (.cells #[.slice none 0 0] 34)).alloc (.cells #[.int .i64 0] 3)).alloc (.cells #[.int .i64 0] 26)) 34 (.slice none 0 0)).alloc (.cells #[.slice a len cap] 24)
  have b4 := Boxed.new ((((w.alloc (.cells #[.slice none 0 0] 34)).alloc (.cells #[.int .i64 0] 3)).alloc (.cells #[.int .i64 0] 26)).alloc (.cells #[.slice none 0 0] 34)) 24 (.slice a len cap)
  simp only [World.size_alloc] at b1 b2 b3 b4
  have hsz : (((((w.alloc (.cells #[.slice none 0 0] 34)).alloc (.cells #[.int .i64 0] 3)).alloc (.cells #[.int .i64 0] 26)).alloc (.cells #[.slice none 0 0] 34)).alloc (.cells #[.slice a len cap] 24)).heap.size = w.heap.size + 5 := by simp
  generalize (((((w.alloc (.cells #[.slice none 0 0] 34)).alloc (.cells #[.int .i64 0] 3)).alloc (.cells #[.int .i64 0] 26)).alloc (.cells #[.slice none 0 0] 34)).alloc (.cells #[.slice a len cap] 24)) = W0 at *
  refine wpIn_rangeFunc_ownH (n := 5) rfl (by omega) (gf := 31) (lb := #[.pointer (some ⟨w.heap.size + 1 + 1 + 1 + 1, 0, none⟩)]) rfl trivial (enters_of Try.func31 (by kernel_rfl) rfl)
    (entries_stops 4 (by omega) (w.heap.size + 1 + 1 + 1 + 1) a len cap bs w W0 hv hB0 (by omega) b4.cell) belowK_t (belowK_b (by omega)) (Below.refl _ _) (fun _ => rfl)
    (fun pre W => goodPre pre ∧ StkI w w.heap.size pre W) (stkIx w w.heap.size)
    (OwnFrom.and (ownFrom_pure _ _) (fun s X Y row h1 h2 h3 => StkI.own (Nat.le_refl _) (by omega) () X Y row h1 h2 h3)) (stkIx_own (Nat.le_refl _) (by omega))
    ⟨⟨by simp, fun _ h => by simp at h⟩, ⟨_, b3, World.ownsRow_nil _ _ _ _⟩, b0, b1, b2, hB0⟩
    (stkAx w.heap.size a len cap) (fun x a' => stkAx_own x a')
    ?assign ?body ?done ?stop
  case assign =>
    rintro l pre x W K ⟨hg, hI⟩ hK
    obtain ⟨⟨L, C, B, T⟩, c⟩ := x
    unfold Ent.val
    gi_wp2
    obtain ⟨v, hv1, hrow⟩ := hI.row
    exact hK _ _ ((KeepsOthers.alloc _ _).from _) ((Below.refl _ W).alloc hI.below.size _) ⟨hg, (StkI.own (B := w.heap.size) (Nat.le_refl _) (Nat.le_refl _)).alloc (s := ()) _ hI⟩
      ⟨W.heap.size, v, hv1.lt, World.alloc_heap_new W _, hv1.alloc _, own_lt hrow, rfl⟩
  case body =>
    rintro l pre x a' W hl _ ⟨hg, hI⟩ ⟨Bx, v, hBx, hbx, hbv, hne, rfl⟩ hlt
    obtain ⟨⟨L, C, B, T⟩, c⟩ := x
    simp only at hbx
    obtain ⟨k0, k1, k2, k3⟩ := four_cells hbx
    have HI := Lib.hid hI
    by_cases hc : c = 0
    · subst hc
      have hcb := hbv.cell
      obtain ⟨i0, hi, hz0, hz1, hz2⟩ := info_parts info23
      obtain ⟨u, hu, hrow⟩ := hI.row
      obtain rfl := box_same hbv hu
      have HR := Lib.hid hrow
      have hn0 := hI.below.size
      have hpl := hg.1
      have HBX := Lib.hid hbx
      have HBV := Lib.hid hbv
      have HNE := Lib.hid hne
      have HG := Lib.hid hg
      clear hI hbx hbv hu hrow hne hg
      gi_wp2_with (gi_at_builtin; refine wpListIn_append_own _ rfl _ _ 34 rfl w.heap.size 23 i0 (.agg #[.int .i64 0, .int .u8 0, .bool false, .int .u8 0]) 4 16 Try.underlying34 hi hz0 hz1 hz2 rfl (by decide) _ _ _ rfl (HR.out.alloc _) ⟨W.heap.size, 0, none⟩ 1 1 (Ent.four ⟨L, C, B, T⟩) rfl rfl (four_new W ⟨L, C, B, T⟩ _) (four_one _) (by unfold maxLen; omega) (by omega) (by simp; omega) ?_; intro v' w1 hown' hgrow _; obtain ⟨g', cap', rfl⟩ := ownsRow_succ hown'; refine Hid.out ?_)
      refine Lib.hid ?_
      obtain ⟨hv1, hI2, hk2, hb2⟩ := StkI.appended (x := (⟨L, C, B, T⟩, 0)) HI.out HBV.out hn0 hown' hgrow
      have hc1 := hv1.cell
      have hf1 := hv1.frozen
      have hbx1 := box_block ((Below.heap_alloc W _ Bx (Array.getElem?_eq_some_iff.1 HBX.out).1).trans HBX.out) hgrow HNE.out
      have kB : (w1.setCell ⟨w.heap.size + 1 + 1 + 1, 0, none⟩ (.slice (some ⟨g', 0, none⟩) (pre.length + 1) cap')).cell? ⟨Bx, 2, none⟩ = some (.bool B) := by
        rw [World.cell?_setCell_other _ _ _ _ (fun e => by cases e)]
        exact (four_cells hbx1).2.2.1
      have HI2 := Lib.hid hI2
      have HK2 := Lib.hid hk2
      have HB2 := Lib.hid hb2
      have hl2 : (w1.setCell ⟨w.heap.size + 1 + 1 + 1, 0, none⟩ (.slice (some ⟨g', 0, none⟩) (pre.length + 1) cap')).cell? ⟨w.heap.size + 1 + 1 + 1, 0, none⟩ = some (.slice (some ⟨g', 0, none⟩) (pre.length + 1) cap') := (hv1.set _).cell
      have q0 := hI2.r0.cell
      have q1 := hI2.r1.cell
      have q2 := hI2.r2.cell
      have f0 := hI2.r0.frozen
      have f1 := hI2.r1.frozen
      have f2 := hI2.r2.frozen
      clear hown' hgrow hv1 hI2 hk2 hb2 hbx1 HBX HBV HNE HR k0 k1 k2 k3 hcb
      cases B
      · by_cases h15 : pre.length + 1 = 16
        · have hd : ((pre.length : Int) + 1 == 16) = true := by simp; omega
          have H15 := Lib.hid h15
          clear h15
          gi_wp2
          exact ⟨(((HK2.out.trans (KeepsOthers.setCell _ _ _)).trans (KeepsOthers.setCell _ _ _)).trans (KeepsOthers.setCell _ _ _)).from _, _, _, rfl, HG.out, .inr (.inr ⟨rfl, rfl, rfl, by simpa using H15.out, StkX.stored HI2.out 11⟩)⟩
        · gi_wp2
          refine ⟨HK2.out.from _, HB2.out, ⟨by simp; omega, fun y hy => ?_⟩, HI2.out⟩
          rcases List.mem_append.1 hy with hy | hy
          · exact HG.out.2 y hy
          · simp at hy; subst hy; exact ⟨rfl, rfl⟩
      · gi_wp2
        exact ⟨HK2.out.from _, _, _, rfl, HG.out, .inr (.inl ⟨rfl, rfl, rfl, HI2.out⟩)⟩
    · have q0 := hI.r0.cell
      have q1 := hI.r1.cell
      have q2 := hI.r2.cell
      have f0 := hI.r0.frozen
      have f1 := hI.r1.frozen
      have f2 := hI.r2.frozen
      clear hI hbx
      gi_wp2
      exact ⟨(((KeepsOthers.setCell _ _ _).trans (KeepsOthers.setCell _ _ _)).trans (KeepsOthers.setCell _ _ _)).from _, _, _, rfl, hg, .inl ⟨rfl, hc, StkX.stored HI.out c⟩⟩
  case done =>
    rintro D xs W hD rfl ⟨hg, hI⟩ hK
    exact absurd hg (items_last bs)
  case stop =>
    rintro D c pre W hD hp ⟨pre0, x, rfl, hg, hx⟩ hK
    obtain ⟨e1, e2⟩ := pre_upto hp
    have hpre := stk_pre bs pre0.length (16 - pre0.length) (by rw [← e1]; exact hg.2)
    have hg1 := hg.1
    rw [← e1, show pre0.length + (16 - pre0.length) = 16 by omega, show 16 - pre0.length = (15 - pre0.length) + 1 by omega] at hpre
    have hx1 : unpE (bs.drop (4 * pre0.length)) = x.1 := by rw [e2]; rfl
    have hx2 : unpC (bs.drop (4 * pre0.length)) = x.2 := by rw [e2]; rfl
    rcases hx with ⟨rfl, h2, h3⟩ | ⟨rfl, h2, h3, h4⟩ | ⟨rfl, h2, h3, h4, h5⟩
    · have hs : stk 16 bs = ([], x.2) := by
        rw [hpre, stk, hx2, if_neg h2]; unfold appE; rw [if_neg h2]
      have HS := Lib.hid hs
      clear hpre hs hx1 hx2 e1 e2
      gi_wp2
      refine ⟨by simp, .inl ⟨_, _, rfl, run_takeDeferred hK, ?_⟩⟩
      have c0 := cell_kept h3.r0.cell (grownBy_putObj' W D (.deferred none)) (fun r e => by cases e; exact ⟨_, hK, rfl⟩)
      have c1 := cell_kept h3.r1.cell (grownBy_putObj' W D (.deferred none)) (fun r e => by cases e; exact ⟨_, hK, rfl⟩)
      have c2 := cell_kept h3.r2.cell (grownBy_putObj' W D (.deferred none)) (fun r e => by cases e; exact ⟨_, hK, rfl⟩)
      refine ⟨.tuple #[.slice none 0 0, .int .i64 0, .int .i64 x.2], by simp [results, Try.results13, go_sem, c0, c1, c2], ⟨_, _, _, by rw [HS.out]; rfl, by rw [HS.out]; exact IsE.nil _⟩, h3.below.trans (belowK_b (w := w) (Nat.le_refl _) W D _ _ (by omega) hK rfl rfl)⟩
    · have hs : stk 16 bs = ((pre0 ++ [x]).map (·.1), 0) := by
        rw [hpre, stk, hx2, if_pos h2, hx1, if_pos h3]; unfold appE; rw [if_pos rfl]; simp
      have HS := Lib.hid hs
      clear hpre hs
      obtain ⟨v, hv1, hrow⟩ := h4.row
      rw [List.length_append, List.length_singleton] at hrow
      obtain ⟨g, cp, rfl⟩ := ownsRow_succ hrow
      have HR := Lib.hid hrow
      have HI := Lib.hid h4
      have HX := Lib.hid hp
      have cl := hv1.cell
      have q0 := h4.r0.cell
      have q1 := h4.r1.cell
      have q2 := h4.r2.cell
      have f0 := h4.r0.frozen
      have f1 := h4.r1.frozen
      have f2 := h4.r2.frozen
      have HV := Lib.hid hv1
      clear hrow h4 hv1 e1 e2 hg hp hx1 hx2 b0 b1 b2 b3 b4
      gi_wp2
      gi_region
      have x0 := HI.out.r0.set (.slice (some ⟨g, 0, none⟩) (pre0.length + 1) cp)
      have x1 := HI.out.r1.other (B' := w.heap.size) (by omega) (.slice (some ⟨g, 0, none⟩) (pre0.length + 1) cp)
      have x2 := HI.out.r2.other (B' := w.heap.size) (by omega) (.slice (some ⟨g, 0, none⟩) (pre0.length + 1) cp)
      have xr := HR.out.kept (grownBy_setCell' W w.heap.size (.slice (some ⟨g, 0, none⟩) (pre0.length + 1) cp)) (.inr (HI.out.r0.not_row (by decide) HR.out).symm)
      have y0 := x0.other (B' := w.heap.size + 1) (by omega) (.int .i64 (4 * ((pre0.length : Int) + 1)))
      have y1 := x1.set (.int .i64 (4 * ((pre0.length : Int) + 1)))
      have y2 := x2.other (B' := w.heap.size + 1) (by omega) (.int .i64 (4 * ((pre0.length : Int) + 1)))
      have yr := xr.kept (grownBy_setCell' _ (w.heap.size + 1) (.int .i64 (4 * ((pre0.length : Int) + 1)))) (.inr (x1.not_row (by decide) xr).symm)
      have z0 := y0.other (B' := w.heap.size + 1 + 1) (by omega) (.int .i64 0)
      have z1 := y1.other (B' := w.heap.size + 1 + 1) (by omega) (.int .i64 0)
      have z2 := y2.set (.int .i64 0)
      have zr := yr.kept (grownBy_setCell' _ (w.heap.size + 1 + 1) (.int .i64 0)) (.inr (y2.not_row (by decide) yr).symm)
      have zb := ((HI.out.below.setCell (p := ⟨w.heap.size, 0, none⟩) (by simp) (.slice (some ⟨g, 0, none⟩) (pre0.length + 1) cp)).setCell (p := ⟨w.heap.size + 1, 0, none⟩) (by simp) (.int .i64 (4 * ((pre0.length : Int) + 1)))).setCell (p := ⟨w.heap.size + 1 + 1, 0, none⟩) (by simp; omega) (.int .i64 0)
      have zk := (((KeepsOthers.setCell W ⟨w.heap.size, 0, none⟩ (.slice (some ⟨g, 0, none⟩) (pre0.length + 1) cp)).trans (KeepsOthers.setCell _ ⟨w.heap.size + 1, 0, none⟩ (.int .i64 (4 * ((pre0.length : Int) + 1))))).trans (KeepsOthers.setCell _ ⟨w.heap.size + 1 + 1, 0, none⟩ (.int .i64 0))).same D _ hK rfl
      generalize ((W.setCell ⟨w.heap.size, 0, none⟩ (.slice (some ⟨g, 0, none⟩) (pre0.length + 1) cp)).setCell ⟨w.heap.size + 1, 0, none⟩ (.int .i64 (4 * ((pre0.length : Int) + 1)))).setCell ⟨w.heap.size + 1 + 1, 0, none⟩ (.int .i64 0) = W2 at *
      clear x0 x1 x2 xr y0 y1 y2 yr cl q0 q1 q2 f0 f1 f2
      gi_wp2
      have hK2 : W2.drew.heap[D]? = some (.deferred (some [])) := zk
      refine ⟨by simp, .inl ⟨_, _, rfl, run_takeDeferred hK2, ?_⟩⟩
      have c0 := cell_kept (W := W2.drew) z0.cell (grownBy_putObj' W2.drew D (.deferred none)) (fun r e => by cases e; exact ⟨_, hK2, rfl⟩)
      have c1 := cell_kept (W := W2.drew) z1.cell (grownBy_putObj' W2.drew D (.deferred none)) (fun r e => by cases e; exact ⟨_, hK2, rfl⟩)
      have c2 := cell_kept (W := W2.drew) z2.cell (grownBy_putObj' W2.drew D (.deferred none)) (fun r e => by cases e; exact ⟨_, hK2, rfl⟩)
      have hr2 : W2.drew.ownsRow w.heap.size 23 4 (.slice (some ⟨g, 0, none⟩) (pre0.length + 1) cp) (pre0.length + 1) (entVals ((pre0 ++ [x]).map (·.1))) := zr
      have hbd : Below w.heap.size w W2.drew := ⟨zb.os, zb.tape, zb.output, zb.size, zb.block⟩
      have hr3 := ownsRow_putObj hr2 (.deferred none) hK2 rfl
      refine ⟨.tuple #[.slice (some ⟨g, 0, none⟩) (pre0.length + 1) cp, .int .i64 (4 * ((pre0.length : Int) + 1)), .int .i64 0], by simp [results, Try.results13, go_sem, c0, c1, c2], ⟨some ⟨g, 0, none⟩, pre0.length + 1, cp, ?_, ?_⟩, hbd.trans (belowK_b (w := w) (Nat.le_refl _) W2.drew D _ _ (by omega) hK2 rfl rfl)⟩
      · rw [HS.out]
        have e5 : (4 * ((pre0.length : Int) + 1)) = ((4 * ((pre0 ++ [x]).map (·.1)).length : Nat) : Int) := by simp
        rw [e5]
      rw [HS.out]
      refine IsE.of_owned hr3 (fun e he => ?_)
      obtain ⟨y, hy, rfl⟩ := List.mem_map.1 he
      have hy2 := HX.out.subset hy
      rw [itemsE, uptoE] at hy2
      obtain ⟨j, _, rfl⟩ := List.mem_map.1 hy2
      exact unpE_ok _
    · have hs : stk 16 bs = ([], 11) := by
        rw [List.length_append, List.length_singleton] at h4
        rw [hpre, show 15 - pre0.length = 0 by omega, stk, hx2, if_pos h2, hx1, if_neg (by simp [h3])]
        rfl
      have HS := Lib.hid hs
      clear hpre hs hx1 hx2 e1 e2
      gi_wp2
      refine ⟨by simp, .inl ⟨_, _, rfl, run_takeDeferred hK, ?_⟩⟩
      have c0 := cell_kept h5.r0.cell (grownBy_putObj' W D (.deferred none)) (fun r e => by cases e; exact ⟨_, hK, rfl⟩)
      have c1 := cell_kept h5.r1.cell (grownBy_putObj' W D (.deferred none)) (fun r e => by cases e; exact ⟨_, hK, rfl⟩)
      have c2 := cell_kept h5.r2.cell (grownBy_putObj' W D (.deferred none)) (fun r e => by cases e; exact ⟨_, hK, rfl⟩)
      refine ⟨.tuple #[.slice none 0 0, .int .i64 0, .int .i64 11], by simp [results, Try.results13, go_sem, c0, c1, c2], ⟨_, _, _, by rw [HS.out]; rfl, by rw [HS.out]; exact IsE.nil _⟩, h5.below.trans (belowK_b (w := w) (Nat.le_refl _) W D _ _ (by omega) hK rfl rfl)⟩
end Go.Proofs.Ytljpndkgfjndbaa

/- A table of package lpm by what it holds: a row of prefixes in order. -/
import Derived.Test.YtgimcapcnidjjaaT9p
import Derived.Test.YtgimcapcnidjjaaT9o
import Derived.Test.YtgimcapcnidjjaaP9
namespace Go.Proofs.Ytgimcapcnidjjaa
open Go Go.RowKit

theorem takeN_free {T T' : Tb} {d : Nd} {r : Nat} (h : takeN T d = some (r, T')) : T'.free.length ≤ T.free.length := by
  unfold takeN at h
  split at h
  · split at h
    · cases h; simp
    · cases h
  · cases h; simp
theorem putN_len : ∀ (f : Nat) (T T' : Tb) (n r : Nat) (p : Pfx) (v : Int), putN f T n p v = some (r, T') → T'.nds.length ≤ T.nds.length + f ∧ T'.free.length ≤ T.free.length
  | 0, _, _, _, _, _, _, h => by cases h
  | f + 1, T, T', n, r, p, v, h => by
    unfold putN at h
    split at h
    · have := takeN_len h; have := takeN_free h; omega
    · split at h
      · cases h
      · split at h
        · cases h; simp
        · split at h
          · split at h
            · cases h
            · rename_i h1
              split at h
              · cases h
              · cases h
                have := putN_len f _ _ _ _ _ _ h1
                simp
                omega
          · split at h
            · cases h
            · rename_i h1
              have := takeN_len h1
              have := takeN_free h1
              have := putN_len f _ _ _ _ _ _ h
              omega
structure TabZ (w : World) (X : Nat → Prop) (g : Nat) (six : Bool) (room : Int) (L : List (Pfx × Int)) (N : Nat) : Prop where
  tab : ∃ T S, TabM w X g T ∧ T.six = six ∧ T.room = room ∧ T.count = (L.length : Int) ∧ TreeF 130 T.nds six T.root S L ∧ (∀ k ∈ T.free, k ≠ 0 ∧ k < T.nds.length ∧ k ∉ S) ∧ T.free.Nodup ∧ 1 ≤ T.nds.length ∧ T.nds.length ≤ N ∧ T.free.length ≤ N
  low : L.length ≤ N
section
variable {w w' : World} {X X' : Nat → Prop} {g : Nat} {six : Bool} {room : Int} {L : List (Pfx × Int)} {N : Nat}
theorem TabZ.up (h : TabZ w X g six room L N) (hb : Below w.heap.size w w') : TabZ w' X g six room L N := by
  obtain ⟨⟨T, S, h1, h2⟩, h3⟩ := h
  exact ⟨⟨T, S, h1.up hb, h2⟩, h3⟩
theorem TabZ.other {Y Y' : Nat → Prop} (h : TabZ w X g six room L N) (hu : Upd w Y w' Y') (ha : ∀ k, X k → ¬ Y k) : TabZ w' X g six room L N := by
  obtain ⟨⟨T, S, h1, h2⟩, h3⟩ := h
  exact ⟨⟨T, S, h1.other hu ha, h2⟩, h3⟩
theorem TabZ.blocks (h : TabZ w X g six room L N) : ∀ k, X k → k < w.heap.size := by
  obtain ⟨⟨T, S, h1, h2⟩, h3⟩ := h
  exact h1.low
theorem TabZ.order (h : TabZ w X g six room L N) : InOrder cmpP (okP six) L := by
  obtain ⟨⟨T, S, _, _, _, _, h1, _⟩, _⟩ := h
  exact h1.order
theorem TabZ.more (h : TabZ w X g six room L N) {M : Nat} (hM : N ≤ M) : TabZ w X g six room L M := by
  obtain ⟨⟨T, S, a1, a2, a3, a4, a5, a6, a7, a8, a9, a10⟩, h3⟩ := h
  exact ⟨⟨T, S, a1, a2, a3, a4, a5, a6, a7, a8, by omega, by omega⟩, by omega⟩
theorem ok_of {p : Pfx} (hp : p.addr.length = 16) (h : (chkP p && (p.six == six)) = true) : okP six p := by
  rw [Bool.and_eq_true, beq_iff_eq] at h
  exact ⟨h.2, hp, h.1⟩
end
theorem newZ (six : Bool) (room : Int) (w : World) (h1 : 1 ≤ room) (h2 : room ≤ 65536) : Calls Try.prog 29 #[.bool six, .int .i64 room] w fun e w' => ∃ g X, e = .returned (.pointer (some ⟨g, 0, none⟩)) ∧ TabZ w' X g six room [] 1 ∧ Below w.heap.size w w' ∧ (∀ k, X k → w.heap.size ≤ k) := by
  refine (new_some six room w h1 h2).mono ?_
  rintro e w' ⟨g, X, rfl, h, hb, hx⟩
  exact ⟨g, X, rfl, ⟨⟨tab0 six room, [], h, rfl, rfl, rfl, TreeF.zero 130, (fun k hk => by cases hk), List.nodup_nil, by simp [tab0], by simp [tab0], by simp [tab0]⟩, by simp⟩, hb, hx⟩
/-- What a table tells of a prefix. -/
def getV (six : Bool) (L : List (Pfx × Int)) (p : Pfx) : Option Int := if (chkP p && (p.six == six)) = true then getT cmpP p L else none
theorem getZ (p : Pfx) (w : World) {X : Nat → Prop} {g : Nat} {six : Bool} {room : Int} {L : List (Pfx × Int)} {N : Nat} (h : TabZ w X g six room L N) (hp : p.addr.length = 16) :
    Calls Try.prog 38 #[.pointer (some ⟨g, 0, none⟩), p.val] w fun e w' => e = .returned (.tuple #[.int .i64 ((getV six L p).getD 0), .bool (getV six L p).isSome]) ∧ Below w.heap.size w w' := by
  obtain ⟨⟨T, S, h1, rfl, h3, h4, h5, _⟩, _⟩ := h
  cases ht : (chkP p && (p.six == T.six)) with
  | true =>
    obtain ⟨items, e1, e2⟩ := above_get p (ok_of hp ht) 130 131 T.root S L h5 (by omega)
    have := get_any T p w X g h1 hp 131 items (fun _ => e1)
    rw [ht, if_pos rfl, e2] at this
    unfold getV
    rw [ht, if_pos rfl]
    exact this
  | false =>
    have := get_any T p w X g h1 hp 0 [] (fun h => by rw [ht] at h; cases h)
    rw [ht, if_neg (by simp)] at this
    unfold getV
    rw [ht, if_neg (by simp)]
    exact this
theorem lookZ (a : List UInt8) (w : World) {X : Nat → Prop} {g : Nat} {six : Bool} {room : Int} {L : List (Pfx × Int)} {N : Nat} (h : TabZ w X g six room L N) (ha : a.length = 16) :
    Calls Try.prog 36 #[.pointer (some ⟨g, 0, none⟩), arrV a] w fun e w' => e = .returned (.tuple #[itV ((lookT a L).getD it0).1 ((lookT a L).getD it0).2, .bool (lookT a L).isSome]) ∧ Below w.heap.size w w' := by
  obtain ⟨⟨T, S, h1, rfl, h3, h4, h5, _⟩, _⟩ := h
  obtain ⟨items, e1, e2⟩ := above_look a 130 131 T.root S L h5 (by omega)
  have := look_tab T a w X g h1 ha 131 items e1
  unfold lastI at this
  rw [e2] at this
  have e3 : (!items.isEmpty) = (lookT a L).isSome := by
    rw [← e2]
    cases items <;> simp
  rw [e3] at this
  exact this
theorem allZ (w : World) {X : Nat → Prop} {g : Nat} {six : Bool} {room : Int} {L : List (Pfx × Int)} {N : Nat} (h : TabZ w X g six room L N) (hN : N ≤ 1000000) :
    Calls Try.prog 44 #[.pointer (some ⟨g, 0, none⟩)] w fun e w' => ∃ v, e = .returned v ∧ w'.ownsRow w.heap.size 44 19 v L.length (L.flatMap itF) ∧ Below w.heap.size w w' := by
  obtain ⟨⟨T, S, h1, rfl, h3, h4, h5, _⟩, h6⟩ := h
  exact all_any T w X g h1 131 L (below_tree 130 131 T.root S L h5 (by omega)) (by omega)
/-! Put and Delete. -/
def putE (six : Bool) (room : Int) (L : List (Pfx × Int)) (p : Pfx) : Int :=
  if (chkP p && (p.six == six)) = true then (if getT cmpP p L = none ∧ room ≤ (L.length : Int) then 30 else 0) else 1
def putLst (six : Bool) (room : Int) (L : List (Pfx × Int)) (p : Pfx) (v : Int) : List (Pfx × Int) := if putE six room L p = 0 then putT cmpP p v L else L
def delE (six : Bool) (L : List (Pfx × Int)) (p : Pfx) : Int := if (chkP p && (p.six == six)) = true then (if getT cmpP p L = none then 31 else 0) else 1
def delLst (six : Bool) (L : List (Pfx × Int)) (p : Pfx) : List (Pfx × Int) := if delE six L p = 0 then delT cmpP p L else L
/-- A call that changes the table, or leaves it. -/
def PutZ (w : World) (X : Nat → Prop) (g : Nat) (six : Bool) (room : Int) (L' : List (Pfx × Int)) (N : Nat) (c : Int) (e : Ending) (w' : World) : Prop := e = .returned (.int .i64 c) ∧ ∃ X', TabZ w' X' g six room L' N ∧ Upd w X w' X'
theorem same_len_put {L : List (Pfx × Int)} {p : Pfx} {v : Int} (h : getT cmpP p L ≠ none) : (putT cmpP p v L).length = L.length := by
  rw [put_length, isT_get]
  cases hg : getT cmpP p L
  · exact absurd hg h
  · rfl
theorem more_len_put {L : List (Pfx × Int)} {p : Pfx} {v : Int} (h : getT cmpP p L = none) : (putT cmpP p v L).length = L.length + 1 := by
  rw [put_length, isT_get, h]
  rfl
theorem del_len {L : List (Pfx × Int)} {p : Pfx} (h : getT cmpP p L ≠ none) : (delT cmpP p L).length + 1 = L.length := by
  have hi : isT cmpP p L = true := by
    rw [isT_get]
    cases hg : getT cmpP p L
    · exact absurd hg h
    · rfl
  have hgf := getT_form (c := cmpP) p L
  rw [hi, if_pos rfl] at hgf
  have hlt : idxT cmpP p L < L.length := by
    rcases Nat.lt_or_ge (idxT cmpP p L) L.length with h1 | h1
    · exact h1
    · rw [List.getElem?_eq_none h1] at hgf
      exact absurd hgf h
  rw [delT_form, hi, if_pos rfl, List.length_append, List.length_take, List.length_drop]
  omega
set_option maxHeartbeats 1000000 in
theorem putZ (p : Pfx) (x : Int) (w : World) {X : Nat → Prop} {g : Nat} {six : Bool} {room : Int} {L : List (Pfx × Int)} {N : Nat} (h : TabZ w X g six room L N) (hp : p.addr.length = 16) (hN : N ≤ 900000) :
    Calls Try.prog 31 #[.pointer (some ⟨g, 0, none⟩), p.val, .int .i64 x] w (PutZ w X g six room (putLst six room L p x) (N + 150) (putE six room L p)) := by
  have h9 := h
  obtain ⟨⟨T, S, h1, rfl, rfl, h4, h5, h6, h7, h8, hn1, hn2⟩, hn3⟩ := h
  unfold putLst putE
  cases ht : (chkP p && (p.six == T.six)) with
  | false =>
    rw [if_neg (show ¬ (false = true) by simp), if_neg (show ¬ ((1 : Int) = 0) by omega)]
    refine (put_no _ p x w hp (fun W hW => ?_)).mono ?_
    · have := takes_any T p W X g (h1.up hW) hp
      rw [ht] at this
      exact this
    · rintro e w' ⟨rfl, hb⟩
      exact ⟨rfl, X, (h9.up hb).more (by omega), Upd.of_below X hb⟩
  | true =>
    have hok := ok_of hp ht
    obtain ⟨items, e1, e2⟩ := above_get p hok 130 131 T.root S L h5 (by omega)
    rw [if_pos rfl]
    by_cases hfull : getT cmpP p L = none ∧ T.room ≤ (L.length : Int)
    · rw [if_pos hfull, if_neg (by omega)]
      refine (put_full T p x w X g h1 hp ht 131 items e1 (e2.trans hfull.1) (by rw [h4]; exact hfull.2)).mono ?_
      rintro e w' ⟨rfl, hb⟩
      exact ⟨rfl, X, (h9.up hb).more (by omega), Upd.of_below X hb⟩
    · rw [if_neg hfull, if_pos rfl]
      by_cases hg : getT cmpP p L = none
      · -- a new one
        obtain ⟨r, T', S', q1, q2, R⟩ := put_tree hok x 130 132 { T with count := T.count + 1 } T.root S L h5 h8 h6 h7 (by omega)
        have hl := putN_len _ _ _ _ _ _ _ q1
        have hroom : T.count < T.room := by
          have : ¬ T.room ≤ (L.length : Int) := fun h => hfull ⟨hg, h⟩
          omega
        refine (put_new T T' p x w X g h1 hp ht 131 items e1 (e2.trans hg) hroom (by omega) (by omega) r 133 q1 (by omega)).mono ?_
        rintro e w' ⟨rfl, X', t1, u1⟩
        refine ⟨rfl, X', ⟨⟨_, S', t1, R.same.six, R.same.room, ?_, q2.fix, fun k hk => ?_, R.fnd, ?_, ?_, ?_⟩, ?_⟩, u1⟩
        · show T'.count = _
          rw [R.same.count, more_len_put hg]
          simp only
          omega
        · have := h6 k (R.free k hk).1
          exact ⟨this.1, Nat.lt_of_lt_of_le this.2.1 R.len, (R.free k hk).2⟩
        · exact Nat.le_trans h8 R.len
        · have := hl.1; simp only at this ⊢; omega
        · have := hl.2; simp only at this ⊢; omega
        · rw [more_len_put hg]; omega
      · -- one that is there
        obtain ⟨v0, hv0⟩ : ∃ v0, getT cmpP p L = some v0 := Option.ne_none_iff_exists'.1 hg
        obtain ⟨r, T', S', q1, q2, R⟩ := put_tree hok x 130 132 T T.root S L h5 h8 h6 h7 (by omega)
        have hl := putN_len _ _ _ _ _ _ _ q1
        refine (put_over T T' p x w X g h1 hp ht 131 items e1 v0 (e2.trans hv0) r 133 q1 (by omega)).mono ?_
        rintro e w' ⟨rfl, X', t1, u1⟩
        refine ⟨rfl, X', ⟨⟨_, S', t1, R.same.six, R.same.room, ?_, q2.fix, fun k hk => ?_, R.fnd, ?_, ?_, ?_⟩, ?_⟩, u1⟩
        · show T'.count = _
          rw [R.same.count, same_len_put hg]
          exact h4
        · have := h6 k (R.free k hk).1
          exact ⟨this.1, Nat.lt_of_lt_of_le this.2.1 R.len, (R.free k hk).2⟩
        · exact Nat.le_trans h8 R.len
        · have := hl.1; simp only at this ⊢; omega
        · have := hl.2; simp only at this ⊢; omega
        · rw [same_len_put hg]; omega
set_option maxHeartbeats 1000000 in
theorem delZ (p : Pfx) (w : World) {X : Nat → Prop} {g : Nat} {six : Bool} {room : Int} {L : List (Pfx × Int)} {N : Nat} (h : TabZ w X g six room L N) (hp : p.addr.length = 16) (hN : N ≤ 900000) :
    Calls Try.prog 34 #[.pointer (some ⟨g, 0, none⟩), p.val] w (PutZ w X g six room (delLst six L p) (N + 150) (delE six L p)) := by
  have h9 := h
  obtain ⟨⟨T, S, h1, rfl, rfl, h4, h5, h6, h7, h8, hn1, hn2⟩, hn3⟩ := h
  unfold delLst delE
  cases ht : (chkP p && (p.six == T.six)) with
  | false =>
    rw [if_neg (show ¬ (false = true) by simp), if_neg (show ¬ ((1 : Int) = 0) by omega)]
    refine (del_no _ p w hp (fun W hW => ?_)).mono ?_
    · have := takes_any T p W X g (h1.up hW) hp
      rw [ht] at this
      exact this
    · rintro e w' ⟨rfl, hb⟩
      exact ⟨rfl, X, (h9.up hb).more (by omega), Upd.of_below X hb⟩
  | true =>
    have hok := ok_of hp ht
    obtain ⟨items, e1, e2⟩ := above_get p hok 130 131 T.root S L h5 (by omega)
    rw [if_pos rfl]
    by_cases hg : getT cmpP p L = none
    · rw [if_pos hg, if_neg (by omega)]
      refine (del_none T p w X g h1 hp ht 131 items e1 (e2.trans hg)).mono ?_
      rintro e w' ⟨rfl, hb⟩
      exact ⟨rfl, X, (h9.up hb).more (by omega), Upd.of_below X hb⟩
    · rw [if_neg hg, if_pos rfl]
      obtain ⟨v0, hv0⟩ : ∃ v0, getT cmpP p L = some v0 := Option.ne_none_iff_exists'.1 hg
      obtain ⟨r, T', S', q1, q2, R⟩ := rem_tree hok 130 130 { T with count := T.count - 1 } T.root S L h5 h6 h7 hg (by omega)
      have hl := remN_len _ _ _ _ _ _ q1
      refine (del_some T T' p w X g h1 hp ht 131 items e1 v0 (e2.trans hv0) (by omega) (by omega) r 130 q1 (by omega)).mono ?_
      rintro e w' ⟨rfl, X', t1, u1⟩
      have hdl := del_len hg
      refine ⟨rfl, X', ⟨⟨_, S', t1, R.same.six, R.same.room, ?_, q2.fix, fun k hk => ?_, R.fnd, ?_, ?_, ?_⟩, ?_⟩, u1⟩
      · show T'.count = _
        rw [R.same.count]
        simp only
        omega
      · obtain ⟨h5', h6'⟩ := R.free k hk
        have hk0 : k ≠ 0 ∧ k < T.nds.length := by
          rcases h5' with h | h
          · exact ⟨(h6 k h).1, (h6 k h).2.1⟩
          · exact h5.mem.2 k h
        exact ⟨hk0.1, by have := R.len; simp only at this ⊢; omega, h6'⟩
      · have := R.len; simp only at this ⊢; omega
      · have := R.len; simp only at this ⊢; omega
      · have := hl.2; simp only at this ⊢; omega
      · omega
end Go.Proofs.Ytgimcapcnidjjaa

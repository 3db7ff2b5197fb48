/- Stage 14: a pool at work, and all else as it was. -/
import Derived.Test.YtoliijajhikhgaaDoorPoS
import Derived.Test.YtoliijajhikhgaaDoorR14d
namespace Go.Proofs.YtoliijajhikhgaaDoor
open Go Go.RowKit Go.Shelf

/-- A pool of the call's own. -/
structure Z14 (w : World) (pt : Nat) (room : Int) (T : List (Value × Int)) (W : World) : Prop where
  m : ∃ vt vk ks, PoolM W w.heap.size pt room T vt vk ks
  b : Below w.heap.size w W
/-- All but the pool is as it was. -/
def Kz (w W W' : World) : Prop := KpO (OT14 W w.heap.size) W W'
section
variable {w W W' : World} {pt : Nat} {room : Int} {T T' : List (Value × Int)}
theorem Kz.below (hb : Below W.heap.size W W') : Kz w W W' := KpO.below hb
theorem Kz.trans {W2 : World} (h : Kz w W W') (g : Kz w W' W2) : Kz w W W2 := ot_trans h g
theorem Z14.up (h : Z14 w pt room T W) (hb : Below W.heap.size W W') : Z14 w pt room T W' := ⟨h.m.imp fun _ h => h.imp fun _ h => h.imp fun _ h => h.up hb, below_up h.b hb h.b.size⟩
theorem Kz.b (h : Kz w W W') (hb : Below w.heap.size w W) : Below w.heap.size w W' := hb.trans (ot_base h hb.size)
theorem Z14.to {vt vk : Value} {ks : List Nat} (h : Z14 w pt room T W) (t : PoTo W W' w.heap.size pt room T' vt vk ks) : Z14 w pt room T' W' ∧ Kz w W W' := ⟨⟨⟨_, _, _, t.m⟩, Kz.b t.k h.b⟩, t.k⟩
theorem Z14.low (h : Z14 w pt room T W) : w.heap.size ≤ pt := by obtain ⟨_, _, _, m⟩ := h.m; exact m.hb
/-- A box of another type stays. -/
theorem Kz.bx (g : Kz w W W') {b : Nat} {t : TypeId} {l : List Value} (hx : Bx W b t l) (h1 : t ≠ 64) (h2 : t ≠ 74) (h3 : t ≠ 79) : Bx W' b t l := ot_bx g hx h1 h2 h3
theorem Kz.own (g : Kz w W W') {c n base' : Nat} {t : TypeId} {v : Value} {xs : List Value} (hx : W.ownsRow base' t c v n xs) (h1 : t ≠ 64) (h2 : t ≠ 74) (h3 : t ≠ 79) : W'.ownsRow base' t c v n xs := ot_own g hx h1 h2 h3
theorem Z14.new {n : Int} (h1 : 1 ≤ n) (h2 : n ≤ 65536) (hz : TzE w w.heap.size) (hb : Below w.heap.size w W) : Calls Tryd.prog 7 #[.int .i64 n] W fun e w' => ∃ pt, e = .returned (.pointer (some ⟨pt, 0, none⟩)) ∧ Z14 w pt n [] w' ∧ Below W.heap.size W w' := by
  have hzW : TzE W W.heap.size := by
    have := hz.up hb
    exact ⟨Nat.lt_of_lt_of_le this.1 hb.size, Nat.le_refl _, this.2.2⟩
  refine (pnew_yes n W h1 h2 hzW).mono ?_
  rintro e w' ⟨rfl, hm, hb2⟩
  refine ⟨_, rfl, ⟨⟨_, _, _, ⟨hm.bx, own_mono hm.kt hb.size, own_mono hm.kk hb.size, hb.size, hm.tk, hm.ca, (hz.up hb).up hb2⟩⟩, below_up hb hb2 hb.size⟩, hb2⟩
theorem Z14.len (h : Z14 w pt room T W) : Calls Tryd.prog 14 #[.pointer (some ⟨pt, 0, none⟩)] W fun e w' => e = .returned (.int .i64 (cntU (usT T) : Int)) ∧ W = w' := by
  obtain ⟨_, _, _, m⟩ := h.m
  exact plen_any W m
theorem Z14.uses (h : Z14 w pt room T W) (id : Int) : Calls Tryd.prog 13 #[.pointer (some ⟨pt, 0, none⟩), .int .i64 id] W fun e w' => e = .returned (.int .i64 (atT T id).2) ∧ Below W.heap.size W w' := by
  obtain ⟨_, _, _, m⟩ := h.m
  exact puses_any id W m
theorem Z14.addText (h : Z14 w pt room T W) (s : ByteArray) (hs : s.size ≤ 281474976710656) (hf : (cntU (usT T) : Int) < room) (hT : T.length ≤ 10000) : Calls Tryd.prog 17 #[.pointer (some ⟨pt, 0, none⟩), .string s] W fun e w' => e = .returned (.tuple #[.int .i64 (freeU (usT T) : Int), .int .i64 0]) ∧ Z14 w pt room (addT T (.iface 9 (.string s))) w' ∧ Kz w W w' := by
  obtain ⟨_, _, _, m⟩ := h.m
  refine (paddText_any s W m hs hf hT).mono ?_
  rintro e w' ⟨rfl, _, _, _, t⟩
  exact ⟨rfl, h.to t⟩
theorem Z14.addTextFull (h : Z14 w pt room T W) (s : ByteArray) (hs : s.size ≤ 281474976710656) (hf : room ≤ (cntU (usT T) : Int)) : Calls Tryd.prog 17 #[.pointer (some ⟨pt, 0, none⟩), .string s] W fun e w' => e = .returned (.tuple #[.int .i64 0, .int .i64 30]) ∧ Below W.heap.size W w' := by
  obtain ⟨_, _, _, m⟩ := h.m
  exact paddText_full s W m hs hf
theorem Z14.addInt (h : Z14 w pt room T W) (n : Int) (hf : (cntU (usT T) : Int) < room) (hT : T.length ≤ 10000) : Calls Tryd.prog 20 #[.pointer (some ⟨pt, 0, none⟩), .int .i64 n] W fun e w' => e = .returned (.tuple #[.int .i64 (freeU (usT T) : Int), .int .i64 0]) ∧ Z14 w pt room (addT T (.iface 3 (.int .i64 n))) w' ∧ Kz w W w' := by
  obtain ⟨_, _, _, m⟩ := h.m
  refine (paddInt_any n W m hf hT).mono ?_
  rintro e w' ⟨rfl, _, _, _, t⟩
  exact ⟨rfl, h.to t⟩
theorem Z14.addIntFull (h : Z14 w pt room T W) (n : Int) (hf : room ≤ (cntU (usT T) : Int)) : Calls Tryd.prog 20 #[.pointer (some ⟨pt, 0, none⟩), .int .i64 n] W fun e w' => e = .returned (.tuple #[.int .i64 0, .int .i64 30]) ∧ Below W.heap.size W w' := by
  obtain ⟨_, _, _, m⟩ := h.m
  exact paddInt_full n W m hf
theorem Z14.addHop (h : Z14 w pt room T W) (o : Int) (L : Value) (p b : Int) (R : Value) (pp : Bool) (l r : List Int) (hL : IsC intR 1 W L l) (hR : IsC intR 1 W R r) (h1 : l.length ≤ 1000) (h2 : r.length ≤ 1000) (hf : (cntU (usT T) : Int) < room) (hT : T.length ≤ 10000) :
    Calls Tryd.prog 10 #[.pointer (some ⟨pt, 0, none⟩), .agg (hopR o L p b R pp).toArray] W fun e w' => e = .returned (.tuple #[.int .i64 (freeU (usT T) : Int), .int .i64 0]) ∧ ∃ L' R', w'.ownsRow W.heap.size 3 1 L' l.length (l.flatMap intR) ∧ w'.ownsRow W.heap.size 3 1 R' r.length (r.flatMap intR) ∧ Z14 w pt room (addT T (.iface 25 (.agg (hopR o L' p b R' pp).toArray))) w' ∧ Kz w W w' := by
  obtain ⟨_, _, _, m⟩ := h.m
  refine (paddHop_any o L p b R pp l r W hL hR h1 h2 m hf hT).mono ?_
  rintro e w' ⟨rfl, L', R', _, _, _, ol, or, _, _, t⟩
  exact ⟨rfl, L', R', ol, or, h.to t⟩
theorem Z14.addHopFull (h : Z14 w pt room T W) (o : Int) (L : Value) (p b : Int) (R : Value) (pp : Bool) (l r : List Int) (hL : IsC intR 1 W L l) (hR : IsC intR 1 W R r) (h1 : l.length ≤ 1000) (h2 : r.length ≤ 1000) (hf : room ≤ (cntU (usT T) : Int)) :
    Calls Tryd.prog 10 #[.pointer (some ⟨pt, 0, none⟩), .agg (hopR o L p b R pp).toArray] W fun e w' => e = .returned (.tuple #[.int .i64 0, .int .i64 30]) ∧ Below W.heap.size W w' := by
  obtain ⟨_, _, _, m⟩ := h.m
  exact paddHop_full o L p b R pp l r W hL hR h1 h2 m hf
theorem Z14.ref (h : Z14 w pt room T W) (i : Nat) (x : Value × Int) (hx : T[i]? = some x) (hu : 0 < x.2) (hu2 : x.2 ≤ 100000) : Calls Tryd.prog 11 #[.pointer (some ⟨pt, 0, none⟩), .int .i64 (i : Int)] W fun e w' => e = .returned (.int .i64 0) ∧ Z14 w pt room (T.set i (x.1, x.2 + 1)) w' ∧ Kz w W w' := by
  obtain ⟨_, _, _, m⟩ := h.m
  refine (pref_any i x W m hx hu hu2).mono ?_
  rintro e w' ⟨rfl, t⟩
  exact ⟨rfl, h.to t⟩
theorem Z14.refNo (h : Z14 w pt room T W) (id : Int) (hz : (atT T id).2 = 0) : Calls Tryd.prog 11 #[.pointer (some ⟨pt, 0, none⟩), .int .i64 id] W fun e w' => e = .returned (.int .i64 31) ∧ Below W.heap.size W w' := by
  obtain ⟨_, _, _, m⟩ := h.m
  exact pref_no id W m hz
theorem Z14.unrefNo (h : Z14 w pt room T W) (id : Int) (hz : (atT T id).2 = 0) : Calls Tryd.prog 16 #[.pointer (some ⟨pt, 0, none⟩), .int .i64 id] W fun e w' => e = .returned (.tuple #[.bool false, .int .i64 31]) ∧ Below W.heap.size W w' := by
  obtain ⟨_, _, _, m⟩ := h.m
  exact punref_no id W m hz
theorem Z14.unrefMore (h : Z14 w pt room T W) (i : Nat) (x : Value × Int) (hx : T[i]? = some x) (hu : 1 < x.2) (hu2 : x.2 ≤ 100000) : Calls Tryd.prog 16 #[.pointer (some ⟨pt, 0, none⟩), .int .i64 (i : Int)] W fun e w' => e = .returned (.tuple #[.bool false, .int .i64 0]) ∧ Z14 w pt room (T.set i (x.1, x.2 - 1)) w' ∧ Kz w W w' := by
  obtain ⟨_, _, _, m⟩ := h.m
  refine (punref_more i x W m hx hu hu2).mono ?_
  rintro e w' ⟨rfl, t⟩
  exact ⟨rfl, h.to t⟩
theorem Z14.unrefLast (h : Z14 w pt room T W) (i : Nat) (x : Value × Int) (hx : T[i]? = some x) (hu : x.2 = 1) (hT : T.length ≤ 10000) : Calls Tryd.prog 16 #[.pointer (some ⟨pt, 0, none⟩), .int .i64 (i : Int)] W fun e w' => e = .returned (.tuple #[.bool true, .int .i64 0]) ∧ Z14 w pt room (T.set i (.nilIface, 0)) w' ∧ Kz w W w' := by
  obtain ⟨_, _, _, m⟩ := h.m
  refine (punref_last i x W m hx hu hT).mono ?_
  rintro e w' ⟨rfl, _, t⟩
  exact ⟨rfl, h.to t⟩
theorem Z14.intNo (h : Z14 w pt room T W) (id : Int) (u : Value) (n : Int) (hx : atT T id = (.iface 9 u, n)) : Calls Tryd.prog 21 #[.pointer (some ⟨pt, 0, none⟩), .int .i64 id] W fun e w' => e = .returned (.tuple #[.int .i64 0, .bool false]) ∧ Below W.heap.size W w' := by
  obtain ⟨_, _, _, m⟩ := h.m
  exact pint_no id u n W m hx
theorem Z14.text (h : Z14 w pt room T W) (id : Int) (s : ByteArray) (n : Int) (hx : atT T id = (.iface 9 (.string s), n)) : Calls Tryd.prog 19 #[.pointer (some ⟨pt, 0, none⟩), .int .i64 id] W fun e w' => e = .returned (.tuple #[.string s, .bool true]) ∧ Below W.heap.size W w' := by
  obtain ⟨_, _, _, m⟩ := h.m
  exact ptext_yes id s n W m hx
theorem Z14.hop (h : Z14 w pt room T W) (o : Int) (L : Value) (p b : Int) (R : Value) (pp : Bool) (l r : List Int) (id n : Int) (hL : IsC intR 1 W L l) (hR : IsC intR 1 W R r) (h1 : l.length ≤ 1000) (h2 : r.length ≤ 1000) (hx : atT T id = (.iface 25 (.agg (hopR o L p b R pp).toArray), n)) :
    Calls Tryd.prog 12 #[.pointer (some ⟨pt, 0, none⟩), .int .i64 id] W fun e w' => ∃ L' R', e = .returned (.tuple #[.agg (hopR o L' p b R' pp).toArray, .bool true]) ∧ w'.ownsRow W.heap.size 3 1 L' l.length (l.flatMap intR) ∧ w'.ownsRow W.heap.size 3 1 R' r.length (r.flatMap intR) ∧ L'.oneCell' = true ∧ R'.oneCell' = true ∧ Below W.heap.size W w' := by
  obtain ⟨_, _, _, m⟩ := h.m
  exact phop_yes o L p b R pp l r id n W m hL hR h1 h2 hx
theorem Z14.hopNil (h : Z14 w pt room T W) (id n : Int) (hx : atT T id = (.nilIface, n)) : Calls Tryd.prog 12 #[.pointer (some ⟨pt, 0, none⟩), .int .i64 id] W fun e w' => ∃ L' R', e = .returned (.tuple #[.agg (hopR 0 L' 0 0 R' false).toArray, .bool false]) ∧ L'.oneCell' = true ∧ R'.oneCell' = true ∧ Below W.heap.size W w' := by
  obtain ⟨_, _, _, m⟩ := h.m
  exact phop_nil id n W m hx
theorem Z14.sum (h : Z14 w pt room T W) (l : List Int) (v : Value) (hl : IsC intR 1 W v l) (hll : l.length ≤ 100) (hal : ∀ x ∈ l, ∃ n, atT T x = (.iface 3 (.int .i64 7), n)) : Calls Tryd.prog 22 #[.pointer (some ⟨pt, 0, none⟩), v] W fun e w' => e = .returned (.tuple #[.int .i64 (7 * (l.length : Int)), .bool true]) ∧ Below W.heap.size W w' := by
  obtain ⟨_, _, _, m⟩ := h.m
  exact psum_yes l v W m hl hll hal
theorem Z14.sumNo (h : Z14 w pt room T W) (pre post : List Int) (x0 : Int) (u0 : Value) (v : Value) (hl : IsC intR 1 W v (pre ++ x0 :: post)) (hll : pre.length ≤ 100) (hal : ∀ x ∈ pre, ∃ n, atT T x = (.iface 3 (.int .i64 7), n)) (n0 : Int) (h0 : atT T x0 = (.iface 9 u0, n0)) : Calls Tryd.prog 22 #[.pointer (some ⟨pt, 0, none⟩), v] W fun e w' => e = .returned (.tuple #[.int .i64 0, .bool false]) ∧ Below W.heap.size W w' := by
  obtain ⟨_, _, _, m⟩ := h.m
  exact psum_no pre post x0 u0 v W m hl hll hal n0 h0
end
end Go.Proofs.YtoliijajhikhgaaDoor

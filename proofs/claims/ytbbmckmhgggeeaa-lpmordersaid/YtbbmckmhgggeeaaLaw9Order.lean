/- LpmOrder: the order in which prefixes come plays no part. -/
import Derived.Test.YtbbmckmhgggeeaaAw9b
import Derived.Test.YtbbmckmhgggeeaaLiftT
import Derived.Test.YtbbmckmhgggeeaaR9a
import Derived.Test.YtbbmckmhgggeeaaLaw9Long
namespace Go.Proofs.Ytbbmckmhgggeeaa
open Go Go.RowKit

theorem putLst_order {six : Bool} {room : Int} {L : List (Pfx × Int)} (h : InOrder cmpP (okP six) L) (p : Pfx) (hp : p.addr.length = 16) (v : Int) : InOrder cmpP (okP six) (putLst six room L p v) := by
  unfold putLst
  split
  · rename_i h0
    refine put_order (cmpP_ord6 six) p ?_ v L h
    unfold putE at h0
    split at h0
    · rename_i h1
      exact ok_of hp h1
    · omega
  · exact h
theorem putLst_len (six : Bool) (room : Int) (L : List (Pfx × Int)) (p : Pfx) (v : Int) : (putLst six room L p v).length ≤ L.length + 1 := by
  unfold putLst
  split
  · rw [put_length]
    split <;> omega
  · omega
theorem get_putLst {six : Bool} {room : Int} {L : List (Pfx × Int)} (h : InOrder cmpP (okP six) L) (hr : (L.length : Int) < room) (p : Pfx) (hp : p.addr.length = 16) (v : Int) (q : Pfx) (hq : okP six q) :
    getT cmpP q (putLst six room L p v) = if eqP p q = true then some v else getT cmpP q L := by
  unfold putLst putE
  cases ht : (chkP p && (p.six == six)) with
  | false =>
    rw [if_neg (show ¬ (false = true) by simp), if_neg (show ¬ ((1 : Int) = 0) by omega), if_neg ?_]
    intro he
    obtain rfl := eqP_iff.1 he
    rw [hq.2.2, hq.1] at ht
    simp at ht
  | true =>
    rw [if_pos rfl, if_neg (show ¬ (getT cmpP p L = none ∧ room ≤ (L.length : Int)) from fun h => by omega), if_pos rfl, getT_putT (cmpP_ord6 six) p q (ok_of hp ht) hq v L h]
    by_cases h1 : p = q
    · subst h1
      rw [if_pos ((cmpP_ord6 six).refl p), if_pos (eqP_iff.2 rfl)]
    · rw [if_neg (fun h0 => h1 ((cmpP_ord6 six).zero p q (ok_of hp ht) hq h0)), if_neg (fun h0 => h1 (eqP_iff.1 h0))]
/-- The first of a script that puts a prefix. -/
def fstS (q : Pfx) : List Stp → Option Int
  | [] => none
  | s :: l => if eqP s.p q = true then some s.v else fstS q l
def ordA1 (six : Bool) (L : List (Pfx × Int)) (s : Stp) : List (Pfx × Int) := if (getV six L s.p).isSome = true then L else putLst six 1000 L s.p s.v
def ordA (six : Bool) (l : List Stp) : List (Pfx × Int) := l.foldl (ordA1 six) []
def ordB (six : Bool) : List Stp → List (Pfx × Int)
  | [] => []
  | s :: l => putLst six 1000 (ordB six l) s.p s.v
theorem ordA_snoc (six : Bool) (l : List Stp) (s : Stp) : ordA six (l ++ [s]) = ordA1 six (ordA six l) s := by simp [ordA]
theorem getV_ok {six : Bool} {L : List (Pfx × Int)} {q : Pfx} (hq : okP six q) : getV six L q = getT cmpP q L := by
  unfold getV
  rw [if_pos (by rw [hq.2.2, hq.1]; simp)]
theorem ordB_told (six : Bool) : ∀ l : List Stp, (∀ s ∈ l, s.p.addr.length = 16) → l.length ≤ 900 → InOrder cmpP (okP six) (ordB six l) ∧ (ordB six l).length ≤ l.length ∧ ∀ q, okP six q → getT cmpP q (ordB six l) = fstS q l
  | [], _, _ => ⟨InOrder.nil, Nat.le_refl _, fun q _ => rfl⟩
  | s :: l, h, hl => by
    rw [List.length_cons] at hl
    obtain ⟨h1, h2, h3⟩ := ordB_told six l (fun x hx => h x (by simp [hx])) (by omega)
    have hp := h s (by simp)
    refine ⟨putLst_order h1 s.p hp s.v, ?_, fun q hq => ?_⟩
    · have := putLst_len six 1000 (ordB six l) s.p s.v
      rw [List.length_cons]
      show (putLst six 1000 (ordB six l) s.p s.v).length ≤ _
      omega
    · show getT cmpP q (putLst six 1000 (ordB six l) s.p s.v) = _
      rw [get_putLst h1 (by omega) s.p hp s.v q hq, h3 q hq]
      rfl
theorem ordA1_told (six : Bool) (L : List (Pfx × Int)) (s : Stp) (h : InOrder cmpP (okP six) L) (hp : s.p.addr.length = 16) : InOrder cmpP (okP six) (ordA1 six L s) ∧ (ordA1 six L s).length ≤ L.length + 1 := by
  unfold ordA1
  split
  · exact ⟨h, by omega⟩
  · exact ⟨putLst_order h s.p hp s.v, putLst_len six 1000 L s.p s.v⟩
theorem foldA_told (six : Bool) : ∀ (l : List Stp) (L : List (Pfx × Int)), (∀ s ∈ l, s.p.addr.length = 16) → L.length + l.length ≤ 900 → InOrder cmpP (okP six) L →
    InOrder cmpP (okP six) (l.foldl (ordA1 six) L) ∧ ∀ q, okP six q → getT cmpP q (l.foldl (ordA1 six) L) = (if (getT cmpP q L).isSome = true then getT cmpP q L else fstS q l)
  | [], L, _, _, h => ⟨h, fun q _ => by
    show getT cmpP q L = _
    cases getT cmpP q L <;> rfl⟩
  | s :: l, L, hs, hl, h => by
    rw [List.length_cons] at hl
    have hp := hs s (by simp)
    obtain ⟨a1, a2⟩ := ordA1_told six L s h hp
    obtain ⟨b1, b2⟩ := foldA_told six l (ordA1 six L s) (fun x hx => hs x (by simp [hx])) (by omega) a1
    refine ⟨b1, fun q hq => ?_⟩
    rw [List.foldl_cons, b2 q hq]
    rw [show fstS q (s :: l) = if eqP s.p q = true then some s.v else fstS q l from rfl]
    unfold ordA1
    by_cases hg : (getV six L s.p).isSome = true
    · rw [if_pos hg]
      by_cases hq2 : (getT cmpP q L).isSome = true
      · rw [if_pos hq2, if_pos hq2]
      · rw [if_neg hq2, if_neg hq2, if_neg]
        intro he
        rw [eqP_iff.1 he, getV_ok hq] at hg
        exact hq2 hg
    · rw [if_neg hg, get_putLst h (by omega) s.p hp s.v q hq]
      by_cases he : eqP s.p q = true
      · rw [if_pos he, if_pos he]
        rw [eqP_iff.1 he, getV_ok hq] at hg
        rw [if_neg hg]
        rfl
      · rw [if_neg he, if_neg he]
theorem ord_same (six : Bool) (l : List Stp) (hs : ∀ s ∈ l, s.p.addr.length = 16) (hl : l.length ≤ 40) : ordA six l = ordB six l := by
  obtain ⟨a1, a2⟩ := foldA_told six l [] hs (by simp; omega) InOrder.nil
  obtain ⟨b1, _, b2⟩ := ordB_told six l hs (by omega)
  refine tab_ext (cmpP_ord6 six) _ _ a1 b1 (fun q hq => ?_)
  rw [show ordA six l = l.foldl (ordA1 six) [] from rfl, a2 q hq, b2 q hq]
  rfl
/-- Two tables. -/
structure OrdZ (w : World) (ga gb : Nat) (six : Bool) (LA LB : List (Pfx × Int)) (NA NB : Nat) (W : World) : Prop where
  tabs : ∃ X Y, TabZ W X ga six 1000 LA NA ∧ TabZ W Y gb six 1000 LB NB ∧ (∀ k, X k → ¬ Y k) ∧ (∀ k, X k → w.heap.size ≤ k) ∧ ∀ k, Y k → w.heap.size ≤ k
  below : Below w.heap.size w W
section
variable {w W W' : World} {ga gb : Nat} {six : Bool} {LA LB : List (Pfx × Int)} {NA NB : Nat}
theorem OrdZ.up (h : OrdZ w ga gb six LA LB NA NB W) (hb : Below W.heap.size W W') : OrdZ w ga gb six LA LB NA NB W' := by
  obtain ⟨X, Y, h1, h2, h3⟩ := h.tabs
  exact ⟨⟨X, Y, h1.up hb, h2.up hb, h3⟩, below_up h.below hb h.below.size⟩
theorem OrdZ.putA (h : OrdZ w ga gb six LA LB NA NB W) (p : Pfx) (x : Int) (hp : p.addr.length = 16) (hN : NA ≤ 900000) :
    Calls Try.prog 11 #[.pointer (some ⟨ga, 0, none⟩), p.val, .int .i64 x] W fun e W' => e = .returned (.int .i64 (putE six 1000 LA p)) ∧ OrdZ w ga gb six (putLst six 1000 LA p x) LB (NA + 150) NB W' := by
  obtain ⟨X, Y, h1, h2, h3, h4, h5⟩ := h.tabs
  refine (putZ p x W h1 hp hN).mono ?_
  rintro e W' ⟨rfl, X', t1, u1⟩
  have hYl := h2.blocks
  refine ⟨rfl, ⟨X', Y, t1, h2.other u1 (fun k hy hx => h3 k hx hy), fun k hx hy => ?_, fun k hx => ?_, h5⟩, h.below.trans (u1.below w.heap.size h.below.size (fun k hx => h4 k hx))⟩
  · rcases u1.sub _ hx with h | h
    · exact h3 k h hy
    · have := hYl k hy; omega
  · have := h.below.size
    rcases u1.sub _ hx with h | h
    · exact h4 k h
    · omega
theorem OrdZ.turn (h : OrdZ w ga gb six LA LB NA NB W) : OrdZ w gb ga six LB LA NB NA W := by
  obtain ⟨X, Y, h1, h2, h3, h4, h5⟩ := h.tabs
  exact ⟨⟨Y, X, h2, h1, fun k hy hx => h3 k hx hy, h5, h4⟩, h.below⟩
theorem OrdZ.putB (h : OrdZ w ga gb six LA LB NA NB W) (p : Pfx) (x : Int) (hp : p.addr.length = 16) (hN : NB ≤ 900000) :
    Calls Try.prog 11 #[.pointer (some ⟨gb, 0, none⟩), p.val, .int .i64 x] W fun e W' => e = .returned (.int .i64 (putE six 1000 LB p)) ∧ OrdZ w ga gb six LA (putLst six 1000 LB p x) NA (NB + 150) W' := by
  refine (h.turn.putA p x hp hN).mono ?_
  rintro e W' ⟨rfl, h⟩
  exact ⟨rfl, h.turn⟩
theorem OrdZ.get (h : OrdZ w ga gb six LA LB NA NB W) (p : Pfx) (hp : p.addr.length = 16) :
    Calls Try.prog 14 #[.pointer (some ⟨ga, 0, none⟩), p.val] W fun e W' => e = .returned (.tuple #[.int .i64 ((getV six LA p).getD 0), .bool (getV six LA p).isSome]) ∧ OrdZ w ga gb six LA LB NA NB W' := by
  obtain ⟨X, Y, h1, h2, h3⟩ := h.tabs
  refine (getZ p W h1 hp).mono ?_
  rintro e W' ⟨rfl, hb⟩
  exact ⟨rfl, h.up hb⟩
theorem OrdZ.all (h : OrdZ w ga gb six LA LB NA NB W) (hN : NA ≤ 1000000) :
    Calls Try.prog 22 #[.pointer (some ⟨ga, 0, none⟩)] W fun e W' => ∃ va vc, e = .returned (.slice va LA.length vc) ∧ IsC itF 19 W' (.slice va LA.length vc) LA ∧ Below W.heap.size W W' := by
  obtain ⟨X, Y, h1, h2, h3⟩ := h.tabs
  refine (allZ W h1 hN).mono ?_
  rintro e W' ⟨v, rfl, h1', h2⟩
  obtain ⟨va, vc, rfl⟩ := own_slice9 h1'
  exact ⟨va, vc, rfl, IsC.of_owned (fun y hy => it_len (h1.order.2 y hy).2.1 _) h1', h2⟩
end
set_option maxRecDepth 100000 in
set_option maxHeartbeats 8000000 in
theorem neq_it (p : Pfx) (x : Int) (f : p.addr.length = 16) (W : World) (i j : Nat) : (do eqGuard .neq 44 (.tmp i) (.tmp j) (itV p x) (itV p x); binOp .neq 44 (itV p x) (itV p x) : Sem Value).run Try.prog W = .ok (.bool false) W := by
  obtain ⟨s, l, n⟩ := p
  have h2 := eq_addr9 W l l f f true (decide_eq_true rfl)
  unfold itV itR Pfx.row
  simp only at *
  obtain ⟨x0, x1, x2, x3, x4, x5, x6, x7, x8, x9, x10, x11, x12, x13, x14, x15, rfl⟩ := list16P f
  clear f
  unfold byteVals at *
  simp only [List.map_cons, List.map_nil, List.cons_append, List.nil_append] at *
  cases s <;> go_simp
theorem exec_neq_it {ρ : Operand → Value} {o : Oper} {W : World} (i j : Nat) (ty : TypeId) (ho : o.op = .binOp .neq 44 (.tmp i) (.tmp j) ty) (p : Pfx) (x : Int) (f : p.addr.length = 16) (hx : ρ (.tmp i) = itV p x) (hy : ρ (.tmp j) = itV p x) :
    (execOp ρ o).run Try.prog W = .ok (.value (.bool false)) W := by
  have := neq_it p x f W i j
  unfold execOp
  simp only [ho, hx, hy, Sem.run_bind] at this ⊢
  rw [this]
  rfl
def HeldO (b k b2 k2 : Nat) (m : List Value) (W : World) : Prop := W.rangeAt b k m ∧ W.rangeAt b2 k2 m
def HeldOO (b k b2 k2 : Nat) (m : List Value) (k3 : Nat) (y : List Value) (W : World) : Prop := W.rangeAt b k m ∧ W.rangeAt b2 k2 m ∧ W.rangeAt b k3 y
/-- What is compared at the end. -/
structure OutZ (w : World) (L : List (Pfx × Int)) (v v2 : Value) (W : World) : Prop where
  a : IsC itF 19 W v L
  b : IsC itF 19 W v2 L
  below : Below w.heap.size w W
theorem OutZ.up {w : World} {L : List (Pfx × Int)} {v v2 : Value} {W W' : World} (h : OutZ w L v v2 W) (hb : Below W.heap.size W W') : OutZ w L v v2 W' := ⟨h.a.below hb, h.b.below hb, below_up h.below hb h.below.size⟩
theorem range_up {W W' : World} {b k : Nat} {m : List Value} (h : W.rangeAt b k m) (hb : b < W.heap.size) (hB : Below W.heap.size W W') : W'.rangeAt b k m := fun i v hv => (hB.cell (p := ⟨b, k + i, none⟩) hb).trans (h i v hv)
theorem order_lt {six : Bool} {L : List (Pfx × Int)} (h : InOrder cmpP (okP six) L) {i j : Nat} {x y : Pfx × Int} (hx : L[i]? = some x) (hy : L[j]? = some y) (hij : i < j) : cmpP x.1 y.1 < 0 := by
  obtain ⟨h1, rfl⟩ := List.getElem?_eq_some_iff.1 hx
  obtain ⟨h2, rfl⟩ := List.getElem?_eq_some_iff.1 hy
  exact List.pairwise_iff_getElem.1 h.1 i j h1 h2 hij
set_option maxRecDepth 100000 in
set_option maxHeartbeats 8000000 in
theorem order_walk (sa : Option Addr) (sn scap : Nat) (st : List Stp) (six : Bool) (w : World) (hS : IsC stF 20 w (.slice sa sn scap) st) (hok : ∀ s ∈ st, s.p.addr.length = 16) :
    Calls Try.prog 5 #[.slice sa sn scap, .bool six] w fun e w' => e = .returned (.bool true) ∧ Below w.heap.size w w' := by
  have HA := Lib.hid (fun W => awake9 W)
  have HSC := Lib.hid hS
  have HOK := Lib.hid hok
  obtain ⟨rfl, hcap, hcm, _⟩ := hS.shape
  unfold maxLen at hcm
  clear hS hok
  by_cases h40 : 40 < st.length
  · have h40i : (40 : Int) < (st.length : Int) := by omega
    go_enter Try.func5, Try.ntmps5
    go_wp2_with (go_at_call 8; refine (HA.out _).mono ?_; rintro e w1 ⟨rfl, b1⟩; refine Hid.out ?_)
    refine Lib.hid ?_
    go_wp2
    go_ret
    exact ⟨rfl, b1⟩
  have h40i : (st.length : Int) ≤ 40 := by omega
  have HN := Lib.hid (fun W => newZ six 1000 W (by omega) (by omega))
  have HSAME := Lib.hid (ord_same six st HOK.out (by omega))
  go_enter Try.func5, Try.ntmps5
  go_wp2_with (go_at_call 8; refine (HA.out _).mono ?_; rintro e w1 ⟨rfl, b1⟩; refine Hid.out ?_)
  refine Lib.hid ?_
  go_wp2_with (go_at_call 9; refine (HN.out _).mono ?_; rintro e w2 ⟨ga, X, rfl, t2, b2, x2⟩; refine Hid.out ?_)
  refine Lib.hid ?_
  go_wp2_with (go_at_call 9; refine (HN.out _).mono ?_; rintro e w3 ⟨gb, Y, rfl, t3, b3, y3⟩; refine Hid.out ?_)
  refine Lib.hid ?_
  have z3 : OrdZ w ga gb six [] [] 1 1 w3 := ⟨⟨X, Y, t2.up b3, t3, fun k hx hy => by have := t2.blocks k hx; have := y3 k hy; omega, fun k hk => by have := x2 k hk; have := b1.size; omega, fun k hk => by have := y3 k hk; have := b1.size; have := b2.size; omega⟩, below_up (below_up b1 b2 b1.size) b3 (below_up b1 b2 b1.size).size⟩
  clear t2 b2 x2 t3 b3 y3 b1 HN HA
  go_wp2
  go_loopw [8] (fun r wr => ∃ i : Nat, i ≤ st.length ∧ r = .int .i64 (i : Int) ∧ OrdZ w ga gb six (ordA six (st.take i)) [] (1 + 150 * i) 1 wr) (fun r _ => st.length - (intOf r).toNat)
  case atStart => exact ⟨0, by omega, rfl, z3⟩
  case round =>
    obtain ⟨i, hi, rfl, hz⟩ := hrel
    clear z3
    by_cases hie : i = st.length
    · subst hie
      rw [List.take_length] at hz
      generalize hLL : ordA six st = L at *
      have HZ := Lib.hid hz
      clear hz
      go_wp2
      go_loopw [11] (fun r wr => ∃ j : Nat, j ≤ st.length ∧ r = .int .i64 ((j : Int) - 1) ∧ OrdZ w ga gb six L (ordB six (st.drop j)) (1 + 150 * st.length) (1 + 150 * (st.length - j)) wr) (fun r _ => (intOf r + 1).toNat)
      case atStart => exact ⟨st.length, by omega, rfl, by rw [List.drop_length, Nat.sub_self]; exact HZ.out⟩
      case round =>
        obtain ⟨j, hj, rfl, hz⟩ := hrel
        clear HZ
        by_cases hj0 : j = 0
        · subst hj0
          rw [List.drop_zero, ← HSAME.out] at hz
          have hord : InOrder cmpP (okP six) L := by
            obtain ⟨X, Y, h1, _⟩ := hz.tabs
            exact h1.order
          have HORD := Lib.hid hord
          have HAL := Lib.hid (hz.all (by omega))
          have HAM := Lib.hid (fun W (hb : Below wr.heap.size wr W) => (hz.up hb).turn.all (by omega))
          have HB := Lib.hid hz.below
          clear hz hord HSAME HSC HOK
          go_wp2_with (go_at_call 22; refine HAL.out.mono ?_; rintro e w5 ⟨va, vc, rfl, l5, b5⟩; refine Hid.out ?_)
          refine Lib.hid ?_
          go_wp2_with (go_at_call 22; refine (HAM.out _ b5).mono ?_; rintro e w6 ⟨vd, ve, rfl, l6, b6⟩; refine Hid.out ?_)
          refine Lib.hid ?_
          have z6 : OutZ w L (.slice va L.length vc) (.slice vd L.length ve) w6 := ⟨l5.below b6, l6, below_up (below_up HB.out b5 HB.out.size) b6 (below_up HB.out b5 HB.out.size).size⟩
          clear l5 b5 l6 b6 HB HAM HAL
          obtain ⟨_, hvc, hvm, _⟩ := z6.a.shape
          unfold maxLen at hvm
          obtain ⟨_, hvd, _, _⟩ := z6.b.shape
          go_wp2
          go_loopw [14] (fun r wr => ∃ i : Nat, i ≤ L.length ∧ r = .int .i64 (i : Int) ∧ OutZ w L (.slice va L.length vc) (.slice vd L.length ve) wr) (fun r _ => L.length - (intOf r).toNat)
          case atStart => exact ⟨0, by omega, rfl, z6⟩
          case round =>
            obtain ⟨i, hi, rfl, hz⟩ := hrel
            clear z6
            by_cases hie : i = L.length
            · subst hie
              have HB := Lib.hid hz.below
              clear hz
              go_wp2
              go_ret
              exact ⟨rfl, HB.out⟩
            · have hlt : i < L.length := by omega
              obtain ⟨x, hx⟩ : ∃ x, L[i]? = some x := ⟨_, List.getElem?_eq_getElem hlt⟩
              have hx16 := (HORD.out.2 x (List.mem_of_getElem? hx)).2.1
              obtain ⟨b, k, rfl, hbw, hr⟩ := isC_at hz.a i x hx
              obtain ⟨b2, k2, rfl, hbw2, hr2⟩ := isC_at hz.b i x hx
              have hii : (i : Int) < (L.length : Int) := by omega
              have HX16 := Lib.hid hx16
              have HZ := Lib.hid hz
              by_cases hi0 : i = 0
              · subst hi0
                have hH : HeldO b (k + 0 * 19) b2 (k2 + 0 * 19) (itF x) wr.drew := ⟨hr, hr2⟩
                clear hr hr2 hz hx16 hx
                go_wp2
                refine wp_region_noPanic ?_
                refine wp_region_held_drew (S := HeldO b (k + 0 * 19) b2 (k2 + 0 * 19) (itF x)) (by kernel_rfl) hH (fun hHeld => ?_)
                refine held_take (v := ?v281) 0 rfl (by kernel_rfl) (by kernel_rfl) (by kernel_rfl) (fun _ _ _ h => h) (by rfl) ?y281 (by assumption) ?_
                case y281 => (intro w hSw; unfold HeldO at hSw; go_simp; (try with_reducible rfl); (try omega))
                simp only [List.setIfInBounds_toArray, List.set_cons_zero, List.set_cons_succ]
                refine held_take (v := ?v284) 1 rfl (by kernel_rfl) (by kernel_rfl) (by kernel_rfl) (fun _ _ _ h => h) (by rfl) ?y284 (by assumption) ?_
                case y284 => (intro w hSw; unfold HeldO at hSw; go_simp; (try with_reducible rfl); (try omega))
                simp only [List.setIfInBounds_toArray, List.set_cons_zero, List.set_cons_succ]
                refine held_take (v := ?v287) 2 rfl (by kernel_rfl) (by kernel_rfl) (by kernel_rfl) (fun _ _ _ h => h) (by rfl) ?y287 (by assumption) ?_
                case y287 => (intro w hSw; unfold HeldO at hSw; go_simp; (try with_reducible rfl); (try omega))
                simp only [List.setIfInBounds_toArray, List.set_cons_zero, List.set_cons_succ]
                refine held_take (v := itV x.1 x.2) 3 rfl (by kernel_rfl) (by kernel_rfl) (by kernel_rfl) (fun _ _ _ h => h) (by rfl) (fun W hSw => exec_load_any _ (.tmp 91) rfl b (k + 0 * 19) (itR x.1 x.2) _ rfl hSw.1 Try.underlying44 rfl (it_infoC HX16.out x.2)) (by assumption) ?_
                simp only [List.setIfInBounds_toArray, List.set_cons_zero, List.set_cons_succ]
                refine held_take (v := ?v292) 4 rfl (by kernel_rfl) (by kernel_rfl) (by kernel_rfl) (fun _ _ _ h => h) (by rfl) ?y292 (by assumption) ?_
                case y292 => (intro w hSw; unfold HeldO at hSw; go_simp; (try with_reducible rfl); (try omega))
                simp only [List.setIfInBounds_toArray, List.set_cons_zero, List.set_cons_succ]
                refine held_take (v := ?v295) 5 rfl (by kernel_rfl) (by kernel_rfl) (by kernel_rfl) (fun _ _ _ h => h) (by rfl) ?y295 (by assumption) ?_
                case y295 => (intro w hSw; unfold HeldO at hSw; go_simp; (try with_reducible rfl); (try omega))
                simp only [List.setIfInBounds_toArray, List.set_cons_zero, List.set_cons_succ]
                refine held_take (v := ?v298) 6 rfl (by kernel_rfl) (by kernel_rfl) (by kernel_rfl) (fun _ _ _ h => h) (by rfl) ?y298 (by assumption) ?_
                case y298 => (intro w hSw; unfold HeldO at hSw; go_simp; (try with_reducible rfl); (try omega))
                simp only [List.setIfInBounds_toArray, List.set_cons_zero, List.set_cons_succ]
                refine held_take (v := itV x.1 x.2) 7 rfl (by kernel_rfl) (by kernel_rfl) (by kernel_rfl) (fun _ _ _ h => h) (by rfl) (fun W hSw => exec_load_any _ (.tmp 95) rfl b2 (k2 + 0 * 19) (itR x.1 x.2) _ rfl hSw.2 Try.underlying44 rfl (it_infoC HX16.out x.2)) (by assumption) ?_
                simp only [List.setIfInBounds_toArray, List.set_cons_zero, List.set_cons_succ]
                refine held_take (v := .bool false) 8 rfl (by kernel_rfl) (by kernel_rfl) (by kernel_rfl) (fun _ _ _ h => h) (by rfl) (fun W hSw => exec_neq_it 92 96 _ rfl x.1 x.2 HX16.out rfl rfl) (by assumption) ?_
                simp only [List.setIfInBounds_toArray, List.set_cons_zero, List.set_cons_succ]
                refine held_take (v := ?v305) 9 rfl (by kernel_rfl) (by kernel_rfl) (by kernel_rfl) (fun _ _ _ h => h) (by rfl) ?y305 (by assumption) ?_
                case y305 => (intro w hSw; unfold HeldO at hSw; go_simp; (try with_reducible rfl); (try omega))
                simp only [List.setIfInBounds_toArray, List.set_cons_zero, List.set_cons_succ]
                refine held_take (v := ?v308) 10 rfl (by kernel_rfl) (by kernel_rfl) (by kernel_rfl) (fun _ _ _ h => h) (by rfl) ?y308 (by assumption) ?_
                case y308 => (intro w hSw; unfold HeldO at hSw; go_simp; (try with_reducible rfl); (try omega))
                simp only [List.setIfInBounds_toArray, List.set_cons_zero, List.set_cons_succ]
                refine held_take (v := ?v311) 11 rfl (by kernel_rfl) (by kernel_rfl) (by kernel_rfl) (fun _ _ _ h => h) (by rfl) ?y311 (by assumption) ?_
                case y311 => (intro w hSw; unfold HeldO at hSw; go_simp; (try with_reducible rfl); (try omega))
                simp only [List.setIfInBounds_toArray, List.set_cons_zero, List.set_cons_succ]
                refine held_take (v := ?v314) 12 rfl (by kernel_rfl) (by kernel_rfl) (by kernel_rfl) (fun _ _ _ h => h) (by rfl) ?y314 (by assumption) ?_
                case y314 => (intro w hSw; unfold HeldO at hSw; go_simp; (try with_reducible rfl); (try omega))
                simp only [List.setIfInBounds_toArray, List.set_cons_zero, List.set_cons_succ]
                refine held_skip 13 rfl (by kernel_rfl) (by kernel_rfl) (by kernel_rfl) (fun _ _ _ h => h) (by rfl) (by assumption) ?_
                simp only [List.setIfInBounds_toArray, List.set_cons_zero, List.set_cons_succ]
                refine held_skip 14 rfl (by kernel_rfl) (by kernel_rfl) (by kernel_rfl) (fun _ _ _ h => h) (by rfl) (by assumption) ?_
                simp only [List.setIfInBounds_toArray, List.set_cons_zero, List.set_cons_succ]
                refine held_skip 15 rfl (by kernel_rfl) (by kernel_rfl) (by kernel_rfl) (fun _ _ _ h => h) (by rfl) (by assumption) ?_
                simp only [List.setIfInBounds_toArray, List.set_cons_zero, List.set_cons_succ]
                refine held_skip 16 rfl (by kernel_rfl) (by kernel_rfl) (by kernel_rfl) (fun _ _ _ h => h) (by rfl) (by assumption) ?_
                simp only [List.setIfInBounds_toArray, List.set_cons_zero, List.set_cons_succ]
                refine held_skip 17 rfl (by kernel_rfl) (by kernel_rfl) (by kernel_rfl) (fun _ _ _ h => h) (by rfl) (by assumption) ?_
                simp only [List.setIfInBounds_toArray, List.set_cons_zero, List.set_cons_succ]
                refine held_skip 18 rfl (by kernel_rfl) (by kernel_rfl) (by kernel_rfl) (fun _ _ _ h => h) (by rfl) (by assumption) ?_
                simp only [List.setIfInBounds_toArray, List.set_cons_zero, List.set_cons_succ]
                refine held_skip 19 rfl (by kernel_rfl) (by kernel_rfl) (by kernel_rfl) (fun _ _ _ h => h) (by rfl) (by assumption) ?_
                simp only [List.setIfInBounds_toArray, List.set_cons_zero, List.set_cons_succ]
                refine held_skip 20 rfl (by kernel_rfl) (by kernel_rfl) (by kernel_rfl) (fun _ _ _ h => h) (by rfl) (by assumption) ?_
                simp only [List.setIfInBounds_toArray, List.set_cons_zero, List.set_cons_succ]
                refine held_skip 21 rfl (by kernel_rfl) (by kernel_rfl) (by kernel_rfl) (fun _ _ _ h => h) (by rfl) (by assumption) ?_
                simp only [List.setIfInBounds_toArray, List.set_cons_zero, List.set_cons_succ]
                refine held_skip 22 rfl (by kernel_rfl) (by kernel_rfl) (by kernel_rfl) (fun _ _ _ h => h) (by rfl) (by assumption) ?_
                simp only [List.setIfInBounds_toArray, List.set_cons_zero, List.set_cons_succ]
                refine held_skip 23 rfl (by kernel_rfl) (by kernel_rfl) (by kernel_rfl) (fun _ _ _ h => h) (by rfl) (by assumption) ?_
                simp only [List.setIfInBounds_toArray, List.set_cons_zero, List.set_cons_succ]
                refine held_skip 24 rfl (by kernel_rfl) (by kernel_rfl) (by kernel_rfl) (fun _ _ _ h => h) (by rfl) (by assumption) ?_
                simp only [List.setIfInBounds_toArray, List.set_cons_zero, List.set_cons_succ]
                refine held_skip 25 rfl (by kernel_rfl) (by kernel_rfl) (by kernel_rfl) (fun _ _ _ h => h) (by rfl) (by assumption) ?_
                simp only [List.setIfInBounds_toArray, List.set_cons_zero, List.set_cons_succ]
                refine held_take (v := ?v343) 26 rfl (by kernel_rfl) (by kernel_rfl) (by kernel_rfl) (fun _ _ _ h => h) (by rfl) ?y343 (by assumption) ?_
                case y343 => (intro w hSw; unfold HeldO at hSw; go_simp; (try with_reducible rfl); (try omega))
                simp only [List.setIfInBounds_toArray, List.set_cons_zero, List.set_cons_succ]
                refine held_take (v := ?v346) 27 rfl (by kernel_rfl) (by kernel_rfl) (by kernel_rfl) (fun _ _ _ h => h) (by rfl) ?y346 (by assumption) ?_
                case y346 => (intro w hSw; unfold HeldO at hSw; go_simp; (try with_reducible rfl); (try omega))
                simp only [List.setIfInBounds_toArray, List.set_cons_zero, List.set_cons_succ]
                refine wpAnyH_done (by kernel_rfl) ?_ _
                refine NoPanic.normal ?_
                clear hHeld hH
                go_wp2
                go_roundw
                case rel => exact ⟨0 + 1, by omega, by go_num, HZ.out.up (Below.refl _ _).drew⟩
                case measure => simp [intOf]; omega
              · obtain ⟨j, hij⟩ : ∃ j, i = j + 1 := ⟨i - 1, by omega⟩
                obtain ⟨y, hy⟩ : ∃ y, L[j]? = some y := ⟨_, List.getElem?_eq_getElem (by omega)⟩
                have hy16 := (HORD.out.2 y (List.mem_of_getElem? hy)).2.1
                have hcmp := order_lt HORD.out hy hx (by omega)
                obtain ⟨b', k', e', _, hr3⟩ := isC_at hz.a j y hy
                cases e'
                have hij1 : (i : Int) ≤ (j : Int) + 1 := by omega
                have hij2 : (j : Int) + 1 ≤ (i : Int) := by omega
                have hjj : (j : Int) < (L.length : Int) := by omega
                have hi00 : (0 : Int) < (i : Int) := by omega
                have hH : ∀ W, Below wr.heap.size wr W → HeldOO b (k + i * 19) b2 (k2 + i * 19) (itF x) (k + j * 19) y.1.row W := fun W hW => ⟨range_up hr hbw hW, range_up hr2 hbw2 hW, range_up (range_pre hr3) hbw hW⟩
                have HH := Lib.hid hH
                have HY16 := Lib.hid hy16
                have HC := Lib.hid (fun W => qcompare_any y.1 x.1 W HY16.out HX16.out)
                clear hr hr2 hr3 hz hx16 hy16 hx hy hH hij
                generalize cmpP y.1 x.1 = cc at *
                go_wp2
                refine wp_region_noPanic ?_
                refine wp_region_held_drew (S := HeldOO b (k + i * 19) b2 (k2 + i * 19) (itF x) (k + j * 19) y.1.row) (by kernel_rfl) (HH.out _ (Below.refl _ _).drew) (fun hHeld => ?_)
                refine held_take (v := ?v375) 0 rfl (by kernel_rfl) (by kernel_rfl) (by kernel_rfl) (fun _ _ _ h => h) (by rfl) ?y375 (by assumption) ?_
                case y375 => (intro w hSw; unfold HeldOO at hSw; go_simp; (try with_reducible rfl); (try omega))
                simp only [List.setIfInBounds_toArray, List.set_cons_zero, List.set_cons_succ]
                refine held_take (v := ?v378) 1 rfl (by kernel_rfl) (by kernel_rfl) (by kernel_rfl) (fun _ _ _ h => h) (by rfl) ?y378 (by assumption) ?_
                case y378 => (intro w hSw; unfold HeldOO at hSw; go_simp; (try with_reducible rfl); (try omega))
                simp only [List.setIfInBounds_toArray, List.set_cons_zero, List.set_cons_succ]
                refine held_take (v := ?v381) 2 rfl (by kernel_rfl) (by kernel_rfl) (by kernel_rfl) (fun _ _ _ h => h) (by rfl) ?y381 (by assumption) ?_
                case y381 => (intro w hSw; unfold HeldOO at hSw; go_simp; (try with_reducible rfl); (try omega))
                simp only [List.setIfInBounds_toArray, List.set_cons_zero, List.set_cons_succ]
                refine held_take (v := itV x.1 x.2) 3 rfl (by kernel_rfl) (by kernel_rfl) (by kernel_rfl) (fun _ _ _ h => h) (by rfl) (fun W hSw => exec_load_any _ (.tmp 91) rfl b (k + i * 19) (itR x.1 x.2) _ rfl hSw.1 Try.underlying44 rfl (it_infoC HX16.out x.2)) (by assumption) ?_
                simp only [List.setIfInBounds_toArray, List.set_cons_zero, List.set_cons_succ]
                refine held_take (v := ?v386) 4 rfl (by kernel_rfl) (by kernel_rfl) (by kernel_rfl) (fun _ _ _ h => h) (by rfl) ?y386 (by assumption) ?_
                case y386 => (intro w hSw; unfold HeldOO at hSw; go_simp; (try with_reducible rfl); (try omega))
                simp only [List.setIfInBounds_toArray, List.set_cons_zero, List.set_cons_succ]
                refine held_take (v := ?v389) 5 rfl (by kernel_rfl) (by kernel_rfl) (by kernel_rfl) (fun _ _ _ h => h) (by rfl) ?y389 (by assumption) ?_
                case y389 => (intro w hSw; unfold HeldOO at hSw; go_simp; (try with_reducible rfl); (try omega))
                simp only [List.setIfInBounds_toArray, List.set_cons_zero, List.set_cons_succ]
                refine held_take (v := ?v392) 6 rfl (by kernel_rfl) (by kernel_rfl) (by kernel_rfl) (fun _ _ _ h => h) (by rfl) ?y392 (by assumption) ?_
                case y392 => (intro w hSw; unfold HeldOO at hSw; go_simp; (try with_reducible rfl); (try omega))
                simp only [List.setIfInBounds_toArray, List.set_cons_zero, List.set_cons_succ]
                refine held_take (v := itV x.1 x.2) 7 rfl (by kernel_rfl) (by kernel_rfl) (by kernel_rfl) (fun _ _ _ h => h) (by rfl) (fun W hSw => exec_load_any _ (.tmp 95) rfl b2 (k2 + i * 19) (itR x.1 x.2) _ rfl hSw.2.1 Try.underlying44 rfl (it_infoC HX16.out x.2)) (by assumption) ?_
                simp only [List.setIfInBounds_toArray, List.set_cons_zero, List.set_cons_succ]
                refine held_take (v := .bool false) 8 rfl (by kernel_rfl) (by kernel_rfl) (by kernel_rfl) (fun _ _ _ h => h) (by rfl) (fun W hSw => exec_neq_it 92 96 _ rfl x.1 x.2 HX16.out rfl rfl) (by assumption) ?_
                simp only [List.setIfInBounds_toArray, List.set_cons_zero, List.set_cons_succ]
                refine held_take (v := ?v399) 9 rfl (by kernel_rfl) (by kernel_rfl) (by kernel_rfl) (fun _ _ _ h => h) (by rfl) ?y399 (by assumption) ?_
                case y399 => (intro w hSw; unfold HeldOO at hSw; go_simp; (try with_reducible rfl); (try omega))
                simp only [List.setIfInBounds_toArray, List.set_cons_zero, List.set_cons_succ]
                refine held_take (v := ?v402) 10 rfl (by kernel_rfl) (by kernel_rfl) (by kernel_rfl) (fun _ _ _ h => h) (by rfl) ?y402 (by assumption) ?_
                case y402 => (intro w hSw; unfold HeldOO at hSw; go_simp; (try with_reducible rfl); (try omega))
                simp only [List.setIfInBounds_toArray, List.set_cons_zero, List.set_cons_succ]
                refine held_take (v := .bool true) 11 rfl (by kernel_rfl) (by kernel_rfl) (by kernel_rfl) (fun _ _ _ h => h) (by rfl) (fun W hSw => (by go_simp; first | done | omega | simp [hi00])) (by assumption) ?_
                simp only [List.setIfInBounds_toArray, List.set_cons_zero, List.set_cons_succ]
                refine held_take (v := ?v407) 12 rfl (by kernel_rfl) (by kernel_rfl) (by kernel_rfl) (fun _ _ _ h => h) (by rfl) ?y407 (by assumption) ?_
                case y407 => (intro w hSw; unfold HeldOO at hSw; go_simp; (try with_reducible rfl); (try omega))
                simp only [List.setIfInBounds_toArray, List.set_cons_zero, List.set_cons_succ]
                refine held_take (v := ?v410) 13 rfl (by kernel_rfl) (by kernel_rfl) (by kernel_rfl) (fun _ _ _ h => h) (by rfl) ?y410 (by assumption) ?_
                case y410 => (intro w hSw; unfold HeldOO at hSw; go_simp; (try with_reducible rfl); (try omega))
                simp only [List.setIfInBounds_toArray, List.set_cons_zero, List.set_cons_succ]
                refine held_take (v := ?v413) 14 rfl (by kernel_rfl) (by kernel_rfl) (by kernel_rfl) (fun _ _ _ h => h) (by rfl) ?y413 (by assumption) ?_
                case y413 => (intro w hSw; unfold HeldOO at hSw; go_simp; (try with_reducible rfl); (try omega))
                simp only [List.setIfInBounds_toArray, List.set_cons_zero, List.set_cons_succ]
                refine held_take (v := .int .i64 (j : Int)) 15 rfl (by kernel_rfl) (by kernel_rfl) (by kernel_rfl) (fun _ _ _ h => h) (by rfl) (fun W hSw => (by go_simp; rw [IntKind.wrap_i64]; omega)) (by assumption) ?_
                simp only [List.setIfInBounds_toArray, List.set_cons_zero, List.set_cons_succ]
                refine held_take (v := ?v418) 16 rfl (by kernel_rfl) (by kernel_rfl) (by kernel_rfl) (fun _ _ _ h => h) (by rfl) ?y418 (by assumption) ?_
                case y418 => (intro w hSw; unfold HeldOO at hSw; go_simp; (try with_reducible rfl); (try omega))
                simp only [List.setIfInBounds_toArray, List.set_cons_zero, List.set_cons_succ]
                refine held_take (v := ?v421) 17 rfl (by kernel_rfl) (by kernel_rfl) (by kernel_rfl) (fun _ _ _ h => h) (by rfl) ?y421 (by assumption) ?_
                case y421 => (intro w hSw; unfold HeldOO at hSw; go_simp; (try with_reducible rfl); (try omega))
                simp only [List.setIfInBounds_toArray, List.set_cons_zero, List.set_cons_succ]
                refine held_take (v := y.1.val) 18 rfl (by kernel_rfl) (by kernel_rfl) (by kernel_rfl) (fun _ _ _ h => h) (by rfl) (fun W hSw => exec_load_any _ (.tmp 106) rfl b (k + j * 19) y.1.row _ rfl hSw.2.2 Try.underlying32 rfl (pf_infoC HY16.out)) (by assumption) ?_
                simp only [List.setIfInBounds_toArray, List.set_cons_zero, List.set_cons_succ]
                refine held_take (v := ?v426) 19 rfl (by kernel_rfl) (by kernel_rfl) (by kernel_rfl) (fun _ _ _ h => h) (by rfl) ?y426 (by assumption) ?_
                case y426 => (intro w hSw; unfold HeldOO at hSw; go_simp; (try with_reducible rfl); (try omega))
                simp only [List.setIfInBounds_toArray, List.set_cons_zero, List.set_cons_succ]
                refine held_take (v := ?v429) 20 rfl (by kernel_rfl) (by kernel_rfl) (by kernel_rfl) (fun _ _ _ h => h) (by rfl) ?y429 (by assumption) ?_
                case y429 => (intro w hSw; unfold HeldOO at hSw; go_simp; (try with_reducible rfl); (try omega))
                simp only [List.setIfInBounds_toArray, List.set_cons_zero, List.set_cons_succ]
                refine held_take (v := ?v432) 21 rfl (by kernel_rfl) (by kernel_rfl) (by kernel_rfl) (fun _ _ _ h => h) (by rfl) ?y432 (by assumption) ?_
                case y432 => (intro w hSw; unfold HeldOO at hSw; go_simp; (try with_reducible rfl); (try omega))
                simp only [List.setIfInBounds_toArray, List.set_cons_zero, List.set_cons_succ]
                refine held_take (v := ?v435) 22 rfl (by kernel_rfl) (by kernel_rfl) (by kernel_rfl) (fun _ _ _ h => h) (by rfl) ?y435 (by assumption) ?_
                case y435 => (intro w hSw; unfold HeldOO at hSw; go_simp; (try with_reducible rfl); (try omega))
                simp only [List.setIfInBounds_toArray, List.set_cons_zero, List.set_cons_succ]
                refine held_take (v := x.1.val) 23 rfl (by kernel_rfl) (by kernel_rfl) (by kernel_rfl) (fun _ _ _ h => h) (by rfl) (fun W hSw => exec_load_any _ (.tmp 111) rfl b (k + i * 19) x.1.row _ rfl (range_pre hSw.1) Try.underlying32 rfl (pf_infoC HX16.out)) (by assumption) ?_
                simp only [List.setIfInBounds_toArray, List.set_cons_zero, List.set_cons_succ]
                refine held_one 24 rfl (by kernel_rfl) (by rfl) (fun K hK => ?_)
                go_simp
                refine (HC.out _).mono ?_
                rintro e w7 ⟨rfl, b7⟩
                have hb7 : Below wr.heap.size wr w7 := (Below.refl wr.heap.size wr).drew.trans b7
                have hH7 := HH.out _ hb7
                refine hK.out _ _ hH7 (fun _ => ?_)
                clear hK K b7
                refine held_take (v := .bool false) 25 rfl (by kernel_rfl) (by kernel_rfl) (by kernel_rfl) (fun _ _ _ h => h) (by rfl) (fun W hSw => (by go_simp; first | done | omega | simp [hcmp])) (by assumption) ?_
                simp only [List.setIfInBounds_toArray, List.set_cons_zero, List.set_cons_succ]
                refine held_take (v := ?v450) 26 rfl (by kernel_rfl) (by kernel_rfl) (by kernel_rfl) (fun _ _ _ h => h) (by rfl) ?y450 (by assumption) ?_
                case y450 => (intro w hSw; unfold HeldOO at hSw; go_simp; (try with_reducible rfl); (try omega))
                simp only [List.setIfInBounds_toArray, List.set_cons_zero, List.set_cons_succ]
                refine held_take (v := ?v453) 27 rfl (by kernel_rfl) (by kernel_rfl) (by kernel_rfl) (fun _ _ _ h => h) (by rfl) ?y453 (by assumption) ?_
                case y453 => (intro w hSw; unfold HeldOO at hSw; go_simp; (try with_reducible rfl); (try omega))
                simp only [List.setIfInBounds_toArray, List.set_cons_zero, List.set_cons_succ]
                refine wpAnyH_done (by kernel_rfl) ?_ _
                refine NoPanic.normal ?_
                have HZ7 := Lib.hid (HZ.out.up hb7)
                clear hHeld hb7 hH7 HH HZ HC
                go_wp2
                go_roundw
                case rel => exact ⟨i + 1, by omega, by go_num, HZ7.out⟩
                case measure => simp [intOf]; omega
        · obtain ⟨i, rfl⟩ : ∃ i, j = i + 1 := ⟨j - 1, by omega⟩
          have hlt : i < st.length := by omega
          obtain ⟨s, hs⟩ : ∃ s, st[i]? = some s := ⟨_, List.getElem?_eq_getElem hlt⟩
          have h16 := HOK.out s (List.mem_of_getElem? hs)
          obtain ⟨b, k, rfl, hbw, q0, q1, q2⟩ := step_at HSC.out i s hs h16
          have hii : (i : Int) < (st.length : Int) := by omega
          have hi1 : ((i + 1 : Nat) : Int) - 1 = (i : Int) := by omega
          rw [hi1]
          have HPU := Lib.hid (fun W (h : OrdZ w ga gb six L (ordB six (st.drop (i + 1))) (1 + 150 * st.length) (1 + 150 * (st.length - (i + 1))) W) => h.putB s.p s.v h16 (by omega))
          have hHS : ∀ W, Below w.heap.size w W → HeldS b (k + i * 20) s.p.row s.v W := fun W hW => ⟨fun j v hv => (hW.cell (p := ⟨b, k + i * 20 + 1 + j, none⟩) hbw).trans (q1 j v hv), (hW.cell (p := ⟨b, k + i * 20 + 19, none⟩) hbw).trans q2⟩
          have HHS := Lib.hid hHS
          have H16 := Lib.hid h16
          have HSN := Lib.hid (show ordB six (st.drop i) = putLst six 1000 (ordB six (st.drop (i + 1))) s.p s.v by
            rw [List.drop_eq_getElem_cons hlt, show st[i] = s from (List.getElem?_eq_some_iff.1 hs).2]
            rfl)
          have HZ := Lib.hid hz
          clear hHS h16 q0 q1 q2 hz hs hi1 hj0 hj
          go_wp2
          refine wp_region_noPanic ?_
          refine wp_region_held_drew (S := HeldS b (k + i * 20) s.p.row s.v) (by kernel_rfl) (HHS.out _ HZ.out.below.drew) (fun hHeld => ?_)
          have hz1 := HZ.out.up (Below.refl _ _).drew
          clear HZ
          generalize wr.drew = W1 at *
          refine held_take (v := ?v487) 0 rfl (by kernel_rfl) (by kernel_rfl) (by kernel_rfl) (fun _ _ _ h => h) (by rfl) ?y487 (by assumption) ?_
          case y487 => (intro w hSw; unfold HeldS at hSw; go_simp; (try with_reducible rfl); (try omega))
          simp only [List.setIfInBounds_toArray, List.set_cons_zero, List.set_cons_succ]
          refine held_take (v := ?v490) 1 rfl (by kernel_rfl) (by kernel_rfl) (by kernel_rfl) (fun _ _ _ h => h) (by rfl) ?y490 (by assumption) ?_
          case y490 => (intro w hSw; unfold HeldS at hSw; go_simp; (try with_reducible rfl); (try omega))
          simp only [List.setIfInBounds_toArray, List.set_cons_zero, List.set_cons_succ]
          refine held_take (v := ?v493) 2 rfl (by kernel_rfl) (by kernel_rfl) (by kernel_rfl) (fun _ _ _ h => h) (by rfl) ?y493 (by assumption) ?_
          case y493 => (intro w hSw; unfold HeldS at hSw; go_simp; (try with_reducible rfl); (try omega))
          simp only [List.setIfInBounds_toArray, List.set_cons_zero, List.set_cons_succ]
          refine held_take (v := ?v496) 3 rfl (by kernel_rfl) (by kernel_rfl) (by kernel_rfl) (fun _ _ _ h => h) (by rfl) ?y496 (by assumption) ?_
          case y496 => (intro w hSw; unfold HeldS at hSw; go_simp; (try with_reducible rfl); (try omega))
          simp only [List.setIfInBounds_toArray, List.set_cons_zero, List.set_cons_succ]
          refine held_take (v := ?v499) 4 rfl (by kernel_rfl) (by kernel_rfl) (by kernel_rfl) (fun _ _ _ h => h) (by rfl) ?y499 (by assumption) ?_
          case y499 => (intro w hSw; unfold HeldS at hSw; go_simp; (try with_reducible rfl); (try omega))
          simp only [List.setIfInBounds_toArray, List.set_cons_zero, List.set_cons_succ]
          refine held_take (v := s.p.val) 5 rfl (by kernel_rfl) (by kernel_rfl) (by kernel_rfl) (fun _ _ _ h => h) (by rfl) (fun W hSw => exec_load_any _ (.tmp 66) rfl b (k + i * 20 + 1) s.p.row _ rfl hSw.1 Try.underlying32 rfl (pf_infoC H16.out)) (by assumption) ?_
          simp only [List.setIfInBounds_toArray, List.set_cons_zero, List.set_cons_succ]
          refine held_take (v := ?v504) 6 rfl (by kernel_rfl) (by kernel_rfl) (by kernel_rfl) (fun _ _ _ h => h) (by rfl) ?y504 (by assumption) ?_
          case y504 => (intro w hSw; unfold HeldS at hSw; go_simp; (try with_reducible rfl); (try omega))
          simp only [List.setIfInBounds_toArray, List.set_cons_zero, List.set_cons_succ]
          refine held_take (v := ?v507) 7 rfl (by kernel_rfl) (by kernel_rfl) (by kernel_rfl) (fun _ _ _ h => h) (by rfl) ?y507 (by assumption) ?_
          case y507 => (intro w hSw; unfold HeldS at hSw; go_simp; (try with_reducible rfl); (try omega))
          simp only [List.setIfInBounds_toArray, List.set_cons_zero, List.set_cons_succ]
          refine held_take (v := ?v510) 8 rfl (by kernel_rfl) (by kernel_rfl) (by kernel_rfl) (fun _ _ _ h => h) (by rfl) ?y510 (by assumption) ?_
          case y510 => (intro w hSw; unfold HeldS at hSw; go_simp; (try with_reducible rfl); (try omega))
          simp only [List.setIfInBounds_toArray, List.set_cons_zero, List.set_cons_succ]
          refine held_take (v := ?v513) 9 rfl (by kernel_rfl) (by kernel_rfl) (by kernel_rfl) (fun _ _ _ h => h) (by rfl) ?y513 (by assumption) ?_
          case y513 => (intro w hSw; unfold HeldS at hSw; go_simp; (try with_reducible rfl); (try omega))
          simp only [List.setIfInBounds_toArray, List.set_cons_zero, List.set_cons_succ]
          refine held_take (v := ?v516) 10 rfl (by kernel_rfl) (by kernel_rfl) (by kernel_rfl) (fun _ _ _ h => h) (by rfl) ?y516 (by assumption) ?_
          case y516 => (intro w hSw; unfold HeldS at hSw; go_simp; (try with_reducible rfl); (try omega))
          simp only [List.setIfInBounds_toArray, List.set_cons_zero, List.set_cons_succ]
          refine held_one 11 rfl (by kernel_rfl) (by rfl) (fun K hK => ?_)
          go_simp
          refine (HPU.out _ hz1).mono ?_
          rintro e w3 ⟨rfl, z3⟩
          refine hK.out _ _ (HHS.out _ z3.below) (fun _ => ?_)
          clear hK K hHeld hz1
          refine wpAnyH_done (by kernel_rfl) ?_ _
          refine NoPanic.normal ?_
          rw [← HSN.out] at z3
          have HZ3 := Lib.hid z3
          clear z3 HPU
          go_wp2
          go_roundw
          case rel => exact ⟨i, by omega, by go_num, by rw [show 1 + 150 * (st.length - i) = 1 + 150 * (st.length - (i + 1)) + 150 by omega]; exact HZ3.out⟩
          case measure => simp [intOf]
    · have hlt : i < st.length := by omega
      obtain ⟨s, hs⟩ : ∃ s, st[i]? = some s := ⟨_, List.getElem?_eq_getElem hlt⟩
      have h16 := HOK.out s (List.mem_of_getElem? hs)
      obtain ⟨b, k, rfl, hbw, q0, q1, q2⟩ := step_at HSC.out i s hs h16
      have hii : (i : Int) < (st.length : Int) := by omega
      have HPU := Lib.hid (fun W (h : OrdZ w ga gb six (ordA six (st.take i)) [] (1 + 150 * i) 1 W) => h.putA s.p s.v h16 (by omega))
      have HG := Lib.hid (hz.get s.p h16)
      have hHS : ∀ W, Below w.heap.size w W → HeldS b (k + i * 20) s.p.row s.v W := fun W hW => ⟨fun j v hv => (hW.cell (p := ⟨b, k + i * 20 + 1 + j, none⟩) hbw).trans (q1 j v hv), (hW.cell (p := ⟨b, k + i * 20 + 19, none⟩) hbw).trans q2⟩
      have HR := Lib.hid (hHS _ hz.below).1
      have HHS := Lib.hid hHS
      have H16 := Lib.hid h16
      have hSN : ordA six (st.take (i + 1)) = ordA1 six (ordA six (st.take i)) s := by rw [take_snoc hs, ordA_snoc]
      unfold ordA1 at hSN
      clear hHS h16 q0 q1 q2 hz hs
      generalize (getV six (ordA six (st.take i)) s.p).getD 0 = gv at *
      generalize (getV six (ordA six (st.take i)) s.p).isSome = gs at *
      have HSN := Lib.hid hSN
      clear hSN
      go_wp2_with (first
        | (refine plV rfl s.p.val (exec_load_any _ (.tmp 36) rfl b (k + i * 20 + 1) s.p.row _ rfl HR.out Try.underlying32 rfl (pf_infoC H16.out)) ?_)
        | (go_at_call 14; refine HG.out.mono ?_; rintro e w5 ⟨rfl, z5⟩; refine Hid.out ?_))
      refine Lib.hid ?_
      clear HG HR
      cases gs with
      | true =>
        have HSN2 := HSN.out
        rw [if_pos rfl] at HSN2
        rw [← HSN2] at z5
        have HZ3 := Lib.hid z5
        clear z5 HPU HSN2 HSN
        go_wp2
        go_roundw
        case rel => exact ⟨i + 1, by omega, by go_num, (by obtain ⟨X, Y, h1, h2⟩ := HZ3.out.tabs; exact ⟨⟨X, Y, h1.more (by omega), h2⟩, HZ3.out.below⟩)⟩
        case measure => simp [intOf]; omega
      | false =>
        have HSN2 := HSN.out
        rw [if_neg (by simp)] at HSN2
        have HSN3 := Lib.hid HSN2
        have HZ := Lib.hid z5
        clear z5 HSN2 HSN
        go_wp2
        refine wp_region_noPanic ?_
        refine wp_region_held_drew (S := HeldS b (k + i * 20) s.p.row s.v) (by kernel_rfl) (HHS.out _ HZ.out.below.drew) (fun hHeld => ?_)
        have hz1 := HZ.out.up (Below.refl _ _).drew
        clear HZ
        generalize w5.drew = W1 at *
        refine held_take (v := ?v580) 0 rfl (by kernel_rfl) (by kernel_rfl) (by kernel_rfl) (fun _ _ _ h => h) (by rfl) ?y580 (by assumption) ?_
        case y580 => (intro w hSw; unfold HeldS at hSw; go_simp; (try with_reducible rfl); (try omega))
        simp only [List.setIfInBounds_toArray, List.set_cons_zero, List.set_cons_succ]
        refine held_take (v := ?v583) 1 rfl (by kernel_rfl) (by kernel_rfl) (by kernel_rfl) (fun _ _ _ h => h) (by rfl) ?y583 (by assumption) ?_
        case y583 => (intro w hSw; unfold HeldS at hSw; go_simp; (try with_reducible rfl); (try omega))
        simp only [List.setIfInBounds_toArray, List.set_cons_zero, List.set_cons_succ]
        refine held_take (v := ?v586) 2 rfl (by kernel_rfl) (by kernel_rfl) (by kernel_rfl) (fun _ _ _ h => h) (by rfl) ?y586 (by assumption) ?_
        case y586 => (intro w hSw; unfold HeldS at hSw; go_simp; (try with_reducible rfl); (try omega))
        simp only [List.setIfInBounds_toArray, List.set_cons_zero, List.set_cons_succ]
        refine held_take (v := ?v589) 3 rfl (by kernel_rfl) (by kernel_rfl) (by kernel_rfl) (fun _ _ _ h => h) (by rfl) ?y589 (by assumption) ?_
        case y589 => (intro w hSw; unfold HeldS at hSw; go_simp; (try with_reducible rfl); (try omega))
        simp only [List.setIfInBounds_toArray, List.set_cons_zero, List.set_cons_succ]
        refine held_take (v := ?v592) 4 rfl (by kernel_rfl) (by kernel_rfl) (by kernel_rfl) (fun _ _ _ h => h) (by rfl) ?y592 (by assumption) ?_
        case y592 => (intro w hSw; unfold HeldS at hSw; go_simp; (try with_reducible rfl); (try omega))
        simp only [List.setIfInBounds_toArray, List.set_cons_zero, List.set_cons_succ]
        refine held_take (v := s.p.val) 5 rfl (by kernel_rfl) (by kernel_rfl) (by kernel_rfl) (fun _ _ _ h => h) (by rfl) (fun W hSw => exec_load_any _ (.tmp 47) rfl b (k + i * 20 + 1) s.p.row _ rfl hSw.1 Try.underlying32 rfl (pf_infoC H16.out)) (by assumption) ?_
        simp only [List.setIfInBounds_toArray, List.set_cons_zero, List.set_cons_succ]
        refine held_take (v := ?v597) 6 rfl (by kernel_rfl) (by kernel_rfl) (by kernel_rfl) (fun _ _ _ h => h) (by rfl) ?y597 (by assumption) ?_
        case y597 => (intro w hSw; unfold HeldS at hSw; go_simp; (try with_reducible rfl); (try omega))
        simp only [List.setIfInBounds_toArray, List.set_cons_zero, List.set_cons_succ]
        refine held_take (v := ?v600) 7 rfl (by kernel_rfl) (by kernel_rfl) (by kernel_rfl) (fun _ _ _ h => h) (by rfl) ?y600 (by assumption) ?_
        case y600 => (intro w hSw; unfold HeldS at hSw; go_simp; (try with_reducible rfl); (try omega))
        simp only [List.setIfInBounds_toArray, List.set_cons_zero, List.set_cons_succ]
        refine held_take (v := ?v603) 8 rfl (by kernel_rfl) (by kernel_rfl) (by kernel_rfl) (fun _ _ _ h => h) (by rfl) ?y603 (by assumption) ?_
        case y603 => (intro w hSw; unfold HeldS at hSw; go_simp; (try with_reducible rfl); (try omega))
        simp only [List.setIfInBounds_toArray, List.set_cons_zero, List.set_cons_succ]
        refine held_take (v := ?v606) 9 rfl (by kernel_rfl) (by kernel_rfl) (by kernel_rfl) (fun _ _ _ h => h) (by rfl) ?y606 (by assumption) ?_
        case y606 => (intro w hSw; unfold HeldS at hSw; go_simp; (try with_reducible rfl); (try omega))
        simp only [List.setIfInBounds_toArray, List.set_cons_zero, List.set_cons_succ]
        refine held_take (v := ?v609) 10 rfl (by kernel_rfl) (by kernel_rfl) (by kernel_rfl) (fun _ _ _ h => h) (by rfl) ?y609 (by assumption) ?_
        case y609 => (intro w hSw; unfold HeldS at hSw; go_simp; (try with_reducible rfl); (try omega))
        simp only [List.setIfInBounds_toArray, List.set_cons_zero, List.set_cons_succ]
        refine held_one 11 rfl (by kernel_rfl) (by rfl) (fun K hK => ?_)
        go_simp
        refine (HPU.out _ hz1).mono ?_
        rintro e w3 ⟨rfl, z3⟩
        refine hK.out _ _ (HHS.out _ z3.below) (fun _ => ?_)
        clear hK K hHeld hz1
        refine wpAnyH_done (by kernel_rfl) ?_ _
        refine NoPanic.normal ?_
        rw [← HSN3.out] at z3
        have HZ3 := Lib.hid z3
        clear z3 HPU
        go_wp2
        go_roundw
        case rel => exact ⟨i + 1, by omega, by go_num, by rw [show 1 + 150 * (i + 1) = 1 + 150 * i + 150 by omega]; exact HZ3.out⟩
        case measure => simp [intOf]; omega
end Go.Proofs.Ytbbmckmhgggeeaa

/- Stage 14: scripts; are they small? -/
import Derived.Test.YtoliijajhikhgaaDoorAwP
namespace Go.Proofs.YtoliijajhikhgaaDoor
open Go Go.RowKit Go.Shelf
attribute [local go_sem] Oper.semAt_some

/-- One of a script. -/
structure St14 where
  k : Int
  id : Int
  t : ByteArray
  o : Int
  L : Ls
  p : Int
  b : Int
  R : Ls
  pp : Bool
def St14.hop (x : St14) : List Value := hopR x.o x.L.v x.p x.b x.R.v x.pp
def stR14 (x : St14) : List Value := [.int .i64 x.k, .int .i64 x.id, .string x.t] ++ x.hop
theorem stR14_len (l : List St14) : ∀ x ∈ l, (stR14 x).length = 9 := fun _ _ => rfl
theorem stR14_one (x : St14) : ∀ v ∈ stR14 x, v.oneCell' = true := by
  intro v hv
  simp only [stR14, St14.hop, hopR, List.cons_append, List.nil_append, List.mem_cons, List.not_mem_nil, or_false] at hv
  rcases hv with rfl | rfl | rfl | rfl | rfl | rfl | rfl | rfl | rfl <;> rfl
theorem st14_info : (Tryd.prog.info? 60).map (·.size) = some 9 := by kernel_rfl
/-- A script. -/
structure S14 (W : World) (v : Value) (l : List St14) : Prop where
  c : IsC stR14 9 W v l
  h : ∀ x ∈ l, (∃ ls, IsC intR 1 W x.L.v ls) ∧ ∃ rs, IsC intR 1 W x.R.v rs
theorem S14.up {W W' : World} {v : Value} {l : List St14} (h : S14 W v l) (hb : Below W.heap.size W W') : S14 W' v l :=
  ⟨h.c.below hb, fun x hx => ⟨(h.h x hx).1.imp fun _ q => q.below hb, (h.h x hx).2.imp fun _ q => q.below hb⟩⟩
theorem isSt_at {W : World} {a : Option Addr} {n cap : Nat} {l : List St14} (h : IsC stR14 9 W (.slice a n cap) l) (j : Nat) (x : St14) (hx : l[j]? = some x) : ∃ b k, a = some ⟨b, k, none⟩ ∧ b < W.heap.size ∧ W.rangeAt b (k + j * 9) (stR14 x) := by
  have hj := (List.getElem?_eq_some_iff.1 hx).1
  obtain ⟨rfl, h1, h2, h3⟩ := h.shape
  obtain ⟨b, k, e, hb, hr⟩ := h3 (by omega)
  exact ⟨b, k, e, hb, flat_range (stR14_len l) hr j x hx⟩
def OkS (x : St14) : Prop := x.t.size ≤ 50 ∧ x.L.n ≤ 20 ∧ x.R.n ≤ 20
structure SmE (l : List St14) (e : Ending) : Prop where
  out : ∃ b, e = .returned (.bool b) ∧ (b = true → l.length ≤ 60 ∧ ∀ x ∈ l, OkS x)
set_option maxRecDepth 100000 in
set_option maxHeartbeats 8000000 in
theorem small14 (v : Value) (l : List St14) (w : World) (hC : IsC stR14 9 w v l) :
    Calls Tryd.prog 6 #[v] w fun e w' => w = w' ∧ SmE l e := by
  obtain ⟨a, cap, rfl⟩ := isc_slice hC
  obtain ⟨_, hcap, hmax, _⟩ := hC.shape
  unfold maxLen at hmax
  have HC := Lib.hid hC
  clear hC
  go_enter Tryd.func6, Tryd.ntmps6
  go_wp2_with fail
  go_loopw [3] (fun r wr => ∃ j : Nat, j ≤ l.length ∧ r = .int .i64 (j : Int) ∧ Hid (∀ i x, i < j → l[i]? = some x → OkS x) ∧ w = wr) (fun r _ => l.length - (intOf r).toNat)
  case atStart => exact ⟨0, Nat.zero_le _, rfl, Lib.hid (fun i x h => by omega), rfl⟩
  case round =>
    obtain ⟨j, hj, rfl, HP, rfl⟩ := hrel
    by_cases hlt : j < l.length
    · have hlti : (j : Int) < (l.length : Int) := by omega
      have h0j : ¬ (j : Int) < 0 := by omega
      obtain ⟨x, hx⟩ : ∃ x, l[j]? = some x := ⟨_, List.getElem?_eq_getElem hlt⟩
      obtain ⟨b, k, rfl, hbw, hr⟩ := isSt_at HC.out j x hx
      have c2 : w.cell? ⟨b, k + j * 9 + 2, none⟩ = some (.string x.t) := hr 2 _ rfl
      have c4 : w.cell? ⟨b, k + j * 9 + 3 + 1, none⟩ = some (.slice x.L.a x.L.n x.L.c) := hr 4 _ rfl
      have c7 : w.cell? ⟨b, k + j * 9 + 3 + 4, none⟩ = some (.slice x.R.a x.R.n x.R.c) := hr 7 _ rfl
      have kj : IntKind.i64.wrap ((j : Int) + 1) = (j : Int) + 1 := by simp [IntKind.wrap, IntKind.bits, IntKind.signed]; omega
      have HX := Lib.hid hx
      clear hr hx
      by_cases h1 : (x.t.size : Int) > 50
      · go_wp2
        go_ret
        exact ⟨rfl, ⟨_, rfl, fun h => by cases h⟩⟩
      · by_cases h2 : (x.L.n : Int) > 20
        · go_wp2
          go_ret
          exact ⟨rfl, ⟨_, rfl, fun h => by cases h⟩⟩
        · by_cases h3 : (x.R.n : Int) > 20
          · go_wp2
            go_ret
            exact ⟨rfl, ⟨_, rfl, fun h => by cases h⟩⟩
          · have HOK := Lib.hid (show OkS x from ⟨by omega, by omega, by omega⟩)
            go_wp2
            go_roundw
            case rel => exact ⟨j + 1, hlt, by go_num, (fun i y hi hy => by
              rcases Nat.lt_or_ge i j with h | h
              · exact HP.out i y h hy
              · obtain rfl : i = j := by omega
                rw [HX.out] at hy; cases hy; exact HOK.out : Hid _), by first | rfl | trivial⟩
            case measure => simp [intOf]; omega
    · obtain rfl : j = l.length := by omega
      have hni : ¬ (l.length : Int) < (l.length : Int) := by omega
      have HA := Lib.hid (show ∀ x ∈ l, OkS x from fun x hx => by
        obtain ⟨i, hi, e⟩ := List.getElem_of_mem hx
        exact HP.out i x hi (by rw [← e]; exact List.getElem?_eq_getElem hi))
      obtain ⟨q, hq⟩ : ∃ q : Bool, q = decide ((l.length : Int) ≤ 60) := ⟨_, rfl⟩
      have hq2 : decide ((l.length : Int) ≤ 60) = q := hq.symm
      have HQ := Lib.hid hq
      clear hq
      go_wp2
      go_ret
      exact ⟨rfl, ⟨q, rfl, fun h => ⟨by have := HQ.out; rw [h] at this; have := of_decide_eq_true this.symm; omega, HA.out⟩⟩⟩
end Go.Proofs.YtoliijajhikhgaaDoor

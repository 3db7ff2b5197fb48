/- LpmLongest: what is found of an address has it, and no longer one that is there does. -/
import Derived.Test.YtbbmckmhgggeeaaAw9b
import Derived.Test.YtbbmckmhgggeeaaLiftT
import Derived.Test.YtbbmckmhgggeeaaR9a
namespace Go.Proofs.Ytbbmckmhgggeeaa
open Go Go.RowKit

/-- What a table holds when the first steps are put. -/
def putS (six : Bool) (room : Int) (l : List Stp) : List (Pfx × Int) := l.foldl (fun L s => putLst six room L s.p s.v) []
theorem putS_snoc (six : Bool) (room : Int) (l : List Stp) (s : Stp) : putS six room (l ++ [s]) = putLst six room (putS six room l) s.p s.v := by simp [putS]
theorem take_snoc {α : Type} {l : List α} {i : Nat} {x : α} (h : l[i]? = some x) : l.take (i + 1) = l.take i ++ [x] := by
  obtain ⟨hi, rfl⟩ := List.getElem?_eq_some_iff.1 h
  exact List.take_succ_eq_append_getElem hi
/-- One step of a script that came in. -/
theorem step_at {W : World} {a : Option Addr} {n cap : Nat} {l : List Stp} (h : IsC stF 20 W (.slice a n cap) l) (j : Nat) (s : Stp) (hs : l[j]? = some s) (h16 : s.p.addr.length = 16) : ∃ b k, a = some ⟨b, k, none⟩ ∧ b < W.heap.size ∧ W.cell? ⟨b, k + j * 20, none⟩ = some (.int .i64 s.k) ∧ W.rangeAt b (k + j * 20 + 1) s.p.row ∧ W.cell? ⟨b, k + j * 20 + 19, none⟩ = some (.int .i64 s.v) := by
  obtain ⟨_, _, _, h3⟩ := h.shape
  have hlt := (List.getElem?_eq_some_iff.1 hs).1
  obtain ⟨b, k, rfl, hb, hr⟩ := h3 (by omega)
  have hr2 := flat_range h.1 hr j s hs
  refine ⟨b, k, rfl, hb, hr2 0 _ rfl, fun i v hv => ?_, ?_⟩
  · rw [Nat.add_assoc, Nat.add_assoc, ← Nat.add_assoc k]
    refine hr2 (1 + i) v ?_
    unfold stF
    rw [Nat.add_comm 1 i, List.getElem?_cons_succ, List.getElem?_append_left (List.getElem?_eq_some_iff.1 hv).1]
    exact hv
  · refine hr2 19 _ ?_
    unfold stF
    rw [List.getElem?_cons_succ, List.getElem?_append_right (by rw [row_len h16]; omega), row_len h16]
    rfl
theorem look_all_none (a : List UInt8) : ∀ L : List (Pfx × Int), lookT a L = none → ∀ y ∈ L, hasP y.1 a = false
  | [], _, y, hy => by cases hy
  | z :: L, h, y, hy => by
    unfold lookT at h
    cases hl : lookT a L with
    | some u => rw [hl] at h; simp only at h; split at h <;> cases h
    | none =>
      rw [hl] at h
      simp only at h
      have hz : hasP z.1 a = false := by
        cases hh : hasP z.1 a
        · rfl
        · rw [if_pos hh] at h; cases h
      rcases List.mem_cons.1 hy with rfl | hy
      · exact hz
      · exact look_all_none a L hl y hy
theorem look_some_any (a : List UInt8) (L : List (Pfx × Int)) : (lookT a L).isSome = L.any (fun y => hasP y.1 a) := by
  cases h : lookT a L with
  | none =>
    have := look_all_none a L h
    symm
    rw [Option.isSome_none, List.any_eq_false]
    intro y hy
    rw [this y hy]
    simp
  | some x =>
    obtain ⟨h1, h2⟩ := look_mem a L x h
    symm
    rw [Option.isSome_some, List.any_eq_true]
    exact ⟨x, h1, h2⟩
theorem own_slice9 {w : World} {base : Nat} {e : TypeId} {size : Nat} {v : Value} {n : Nat} {xs : List Value} (h : w.ownsRow base e size v n xs) : ∃ a c, v = .slice a n c := by
  rcases h.2 with ⟨rfl, rfl⟩ | ⟨g, cap, cur, rfl, _⟩
  · exact ⟨none, 0, rfl⟩
  · exact ⟨_, _, rfl⟩
/-- What lies there while the script is put. -/
structure LongZ (w : World) (a : List UInt8) (g : Nat) (six : Bool) (room : Int) (L : List (Pfx × Int)) (N : Nat) (W : World) : Prop where
  box : Bx W w.heap.size 30 (byteVals a)
  tab : ∃ X, TabZ W X g six room L N ∧ ∀ k, X k → w.heap.size + 1 ≤ k
  below : Below w.heap.size w W
theorem LongZ.up {w : World} {a : List UInt8} {g : Nat} {six : Bool} {room : Int} {L : List (Pfx × Int)} {N : Nat} {W W' : World} (h : LongZ w a g six room L N W) (hb : Below W.heap.size W W') : LongZ w a g six room L N W' := by
  obtain ⟨X, h1, h2⟩ := h.tab
  exact ⟨h.box.up hb, ⟨X, h1.up hb, h2⟩, below_up h.below hb h.below.size⟩
theorem LongZ.put {w : World} {a : List UInt8} {g : Nat} {six : Bool} {room : Int} {L : List (Pfx × Int)} {N : Nat} {W : World} (h : LongZ w a g six room L N W) (p : Pfx) (x : Int) (hp : p.addr.length = 16) (hN : N ≤ 900000) :
    Calls Try.prog 11 #[.pointer (some ⟨g, 0, none⟩), p.val, .int .i64 x] W fun e W' => e = .returned (.int .i64 (putE six room L p)) ∧ LongZ w a g six room (putLst six room L p x) (N + 150) W' := by
  obtain ⟨X, h1, h4⟩ := h.tab
  refine (putZ p x W h1 hp hN).mono ?_
  rintro e W' ⟨rfl, X', t1, u1⟩
  have hB := h.box.lt
  refine ⟨rfl, h.box.upd u1 (fun hx => by have := h4 _ hx; omega), ⟨X', t1, fun k hx => ?_⟩, h.below.trans (u1.below w.heap.size h.below.size (fun k hx => by have := h4 k hx; omega))⟩
  rcases u1.sub _ hx with h | h
  · exact h4 k h
  · omega
structure EndZ (w : World) (a : List UInt8) (g : Nat) (six : Bool) (room : Int) (L : List (Pfx × Int)) (N : Nat) (x : Pfx × Int) (C : Nat) (v : Value) (W : World) : Prop where
  z : LongZ w a g six room L N W
  xb : Bx W C 44 (itR x.1 x.2)
  lst : IsC itF 19 W v L
theorem EndZ.up {w : World} {a : List UInt8} {g : Nat} {six : Bool} {room : Int} {L : List (Pfx × Int)} {N : Nat} {x : Pfx × Int} {C : Nat} {v : Value} {W W' : World} (h : EndZ w a g six room L N x C v W) (hb : Below W.heap.size W W') : EndZ w a g six room L N x C v W' := ⟨h.z.up hb, h.xb.up hb, h.lst.below hb⟩
theorem any_snoc {α : Type} (f : α → Bool) (l : List α) (x : α) : (l ++ [x]).any f = (l.any f || f x) := by simp
theorem get_mem_in {six : Bool} : ∀ (L : List (Pfx × Int)), InOrder cmpP (okP six) L → ∀ x ∈ L, getT cmpP x.1 L = some x.2
  | [], _, x, hx => by cases hx
  | y :: L, h, x, hx => by
    rcases List.mem_cons.1 hx with rfl | hx
    · unfold getT
      have h0 := cmpP_ord.refl x.1
      rw [if_neg (by omega), if_pos h0]
    · have hlt := h.head.2 x hx
      unfold getT
      rw [if_pos hlt]
      exact get_mem_in L h.tail x hx
def HeldS (b k : Nat) (m : List Value) (x : Int) (W : World) : Prop := W.rangeAt b (k + 1) m ∧ W.cell? ⟨b, k + 19, none⟩ = some (.int .i64 x)
def HeldJ (b0 : Nat) (l : List Value) (b k : Nat) (m : List Value) (W : World) : Prop := Bx W b0 30 l ∧ W.rangeAt b k m
def HeldM (b k c : Nat) (x y : Int) (W : World) : Prop := W.cell? ⟨b, k + 17, none⟩ = some (.int .i64 x) ∧ W.cell? ⟨c, 17, none⟩ = some (.int .i64 y)
set_option maxRecDepth 100000 in
set_option maxHeartbeats 8000000 in
theorem long_walk (sa : Option Addr) (sn scap : Nat) (st : List Stp) (six : Bool) (a : List UInt8) (w : World) (hS : IsC stF 20 w (.slice sa sn scap) st) (hok : ∀ s ∈ st, s.p.addr.length = 16) (ha : a.length = 16) :
    Calls Try.prog 7 #[.slice sa sn scap, .bool six, arrV a] w fun e w' => e = .returned (.bool true) ∧ Below w.heap.size w w' := by
  have HA := Lib.hid (fun W => awake9 W)
  have hb : Below w.heap.size w (w.alloc (.cells (byteVals a).toArray 30)) := (Below.refl _ _).alloc (Nat.le_refl _) _
  have HX := Lib.hid (Bx.new w 30 (byteVals a))
  have HB := Lib.hid hb
  have HSC := Lib.hid hS
  have HOK := Lib.hid hok
  have HAL := Lib.hid ha
  obtain ⟨rfl, hcap, hcm, _⟩ := hS.shape
  unfold maxLen at hcm
  rw [show arrV a = .agg (byteVals a).toArray from rfl]
  clear hS hok ha hb
  by_cases h40 : 40 < st.length
  · have h40i : (40 : Int) < (st.length : Int) := by omega
    go_enter Try.func7, Try.ntmps7
    go_wp2_with (go_at_call 8; refine (HA.out _).mono ?_; rintro e w1 ⟨rfl, b1⟩; refine Hid.out ?_)
    refine Lib.hid ?_
    go_wp2
    go_ret
    exact ⟨rfl, below_up HB.out b1 HB.out.size⟩
  have h40i : (st.length : Int) ≤ 40 := by omega
  have HN := Lib.hid (fun W => newZ six 50 W (by omega) (by omega))
  go_enter Try.func7, Try.ntmps7
  go_wp2_with (go_at_call 8; refine (HA.out _).mono ?_; rintro e w1 ⟨rfl, b1⟩; refine Hid.out ?_)
  refine Lib.hid ?_
  have B1 := below_up HB.out b1 HB.out.size
  have x1 := HX.out.up b1
  clear HB HX b1
  go_wp2_with (go_at_call 9; refine (HN.out _).mono ?_; rintro e w2 ⟨g, X, rfl, t2, b2, xx2⟩; refine Hid.out ?_)
  refine Lib.hid ?_
  have z2 : LongZ w a g six 50 [] 1 w2 := ⟨x1.up b2, ⟨X, t2, fun k hk => by have := xx2 k hk; have := x1.lt; omega⟩, below_up B1 b2 B1.size⟩
  clear x1 B1 t2 b2 xx2 HN
  go_wp2
  go_loopw [9] (fun r wr => ∃ i : Nat, i ≤ st.length ∧ r = .int .i64 (i : Int) ∧ LongZ w a g six 50 (putS six 50 (st.take i)) (1 + 150 * i) wr) (fun r _ => st.length - (intOf r).toNat)
  case atStart => exact ⟨0, by omega, rfl, z2⟩
  case round =>
    obtain ⟨i, hi, rfl, hz⟩ := hrel
    clear z2
    by_cases hie : i = st.length
    · subst hie
      rw [List.take_length] at hz
      generalize hLL : putS six 50 st = L at *
      have HL : Hid (Calls Try.prog 16 #[.pointer (some ⟨g, 0, none⟩), arrV a] wr fun e W' => e = .returned (.tuple #[itV ((lookT a L).getD it0).1 ((lookT a L).getD it0).2, .bool (lookT a L).isSome]) ∧ Below wr.heap.size wr W') := by
        obtain ⟨X, h1, _⟩ := hz.tab
        exact lookZ a wr h1 HAL.out
      have R5 := Lib.hid (rangeAll hz.box)
      have HZ := Lib.hid hz
      have hord : InOrder cmpP (okP six) L := by
        obtain ⟨X, h1, _⟩ := hz.tab
        exact h1.order
      have hx16 : ((lookT a L).getD it0).1.addr.length = 16 := by
        cases hl : lookT a L with
        | none => rfl
        | some y => exact (hord.2 y (look_mem a L y hl).1).2.1
      have HX16 := Lib.hid hx16
      have HORD := Lib.hid hord
      have F1 : ∀ y ∈ L, hasP y.1 a = true → y.1.len ≤ ((lookT a L).getD it0).1.len := fun y hy hh => by
        cases hl : lookT a L with
        | none => rw [look_all_none a L hl y hy] at hh; cases hh
        | some z => exact look_most a L z y hl hy hh
      have F3 : (lookT a L).isSome = true → getV six L ((lookT a L).getD it0).1 = some ((lookT a L).getD it0).2 ∧ hasP ((lookT a L).getD it0).1 a = true := fun hsome => by
        cases hl : lookT a L with
        | none => rw [hl] at hsome; cases hsome
        | some z =>
          obtain ⟨m1, m2⟩ := look_mem a L z hl
          have hz2 := hord.2 z m1
          refine ⟨?_, m2⟩
          unfold getV
          rw [show ((some z : Option (Pfx × Int)).getD it0) = z from rfl, if_pos (by rw [hz2.2.2, hz2.1]; simp)]
          exact get_mem_in L hord z m1
      have F2 := look_some_any a L
      have HF1 := Lib.hid F1
      have HF2 := Lib.hid F2
      have HF3 := Lib.hid F3
      clear hz hord hx16 F1 F2 F3
      generalize (lookT a L).getD it0 = x at *
      generalize (lookT a L).isSome = isb at *
      go_wp2_with (first
        | (refine plV rfl (arrV a) (exec_load_any _ (.tmp 5) rfl w.heap.size 0 (byteVals a) _ rfl R5.out Try.underlying30 rfl (by rw [byteVals_length, HAL.out]; exact arr16P.info)) ?_)
        | (go_at_call 16; refine HL.out.mono ?_; rintro e w3 ⟨rfl, b3⟩; refine Hid.out ?_))
      refine Lib.hid ?_
      have hbC : Below w3.heap.size w3 (w3.alloc (.cells (itR x.1 x.2).toArray 44)) := (Below.refl _ _).alloc (Nat.le_refl _) _
      have z4 := (HZ.out.up b3).up hbC
      have xb4 := Bx.new w3 44 (itR x.1 x.2)
      have HALL : Hid (Calls Try.prog 22 #[.pointer (some ⟨g, 0, none⟩)] (w3.alloc (.cells (itR x.1 x.2).toArray 44)) fun e W' => ∃ va vc, e = .returned (.slice va L.length vc) ∧ IsC itF 19 W' (.slice va L.length vc) L ∧ Below (w3.alloc (.cells (itR x.1 x.2).toArray 44)).heap.size (w3.alloc (.cells (itR x.1 x.2).toArray 44)) W') := by
        obtain ⟨X, t, _⟩ := z4.tab
        refine Calls.mono (allZ _ t (by omega)) ?_
        rintro e W' ⟨v, rfl, h1, h2⟩
        obtain ⟨va, vc, rfl⟩ := own_slice9 h1
        exact ⟨va, vc, rfl, IsC.of_owned (fun y hy => it_len (HORD.out.2 y hy).2.1 _) h1, h2⟩
      have HZ4 := Lib.hid z4
      have HXB4 := Lib.hid xb4
      clear b3 hbC z4 xb4 HZ HL R5
      rw [show itV x.1 x.2 = .agg (itR x.1 x.2).toArray from rfl]
      go_wp2_with (first
        | (refine wpList_store_fresh rfl 44 (.tmp 10) (.tmp 48) rfl (itR x.1 x.2) _ w3.heap.size rfl rfl rfl (it_infoC HX16.out x.2) (by rw [it_len HX16.out]; rfl) (it_one _ _) ?_)
        | (go_at_call 22; refine HALL.out.mono ?_; rintro e w5 ⟨va, vc, rfl, l5, b5⟩; refine Hid.out ?_))
      refine Lib.hid ?_
      have e5 : EndZ w a g six 50 L (1 + 150 * st.length) x w3.heap.size (.slice va L.length vc) w5 := ⟨HZ4.out.up b5, HXB4.out.up b5, l5⟩
      clear HALL HZ4 HXB4 l5 b5
      generalize w3.heap.size = C at *
      obtain ⟨_, hvc, hvm, _⟩ := e5.lst.shape
      unfold maxLen at hvm
      go_wp2
      go_loopw [13, 14] (fun sv iv wr2 => ∃ j : Nat, j ≤ L.length ∧ iv = .int .i64 (j : Int) ∧ sv = .bool ((L.take j).any (fun y => hasP y.1 a)) ∧ EndZ w a g six 50 L (1 + 150 * st.length) x C (.slice va L.length vc) wr2) (fun _ iv _ => L.length - (intOf iv).toNat)
      case atStart => exact ⟨0, by omega, rfl, rfl, e5⟩
      case round =>
        obtain ⟨j, hj, rfl, rfl, hz⟩ := hrel
        clear e5
        by_cases hje : j = L.length
        · subst hje
          rw [List.take_length, ← HF2.out]
          have R6 := Lib.hid (hz.xb.range 0 x.1.row it_pre)
          have HGT : Hid (Calls Try.prog 14 #[.pointer (some ⟨g, 0, none⟩), x.1.val] wr fun e w' => e = .returned (.tuple #[.int .i64 ((getV six L x.1).getD 0), .bool (getV six L x.1).isSome]) ∧ Below wr.heap.size wr w') := by
            obtain ⟨X, t, _⟩ := hz.z.tab
            exact getZ x.1 wr t HX16.out
          have HZ := Lib.hid hz
          clear hz
          go_wp2_with (first
            | (refine plV rfl x.1.val (exec_load_any _ (.tmp 84) rfl C 0 x.1.row _ rfl R6.out Try.underlying32 rfl (pf_infoC HX16.out)) ?_)
            | (go_at_call 14; refine HGT.out.mono ?_; rintro e w6 ⟨rfl, b6⟩; refine Hid.out ?_))
          refine Lib.hid ?_
          have z6 := HZ.out.up b6
          clear HZ HGT R6 b6
          cases isb with
          | false =>
            have HB6 := Lib.hid z6.z.below
            clear z6
            go_wp2
            go_ret
            exact ⟨rfl, HB6.out⟩
          | true =>
            obtain ⟨f1, f2⟩ := HF3.out rfl
            rw [f1]
            have cv : w6.cell? ⟨C, 18, none⟩ = some (.int .i64 x.2) := by rw [z6.xb.cell]; exact it_v HX16.out
            have R7 := Lib.hid (z6.xb.range 0 x.1.row it_pre)
            have R8 := Lib.hid (rangeAll z6.z.box)
            have HH := Lib.hid (qhas_any x.1 a w6 HX16.out HAL.out)
            rw [f2] at HH
            have HZ6 := Lib.hid z6
            clear z6 f1 f2
            go_wp2_with (first
              | (refine plV rfl x.1.val (exec_load_any _ (.tmp 104) rfl C 0 x.1.row _ rfl R7.out Try.underlying32 rfl (pf_infoC HX16.out)) ?_)
              | (refine plV rfl (arrV a) (exec_load_any _ (.tmp 5) rfl w.heap.size 0 (byteVals a) _ rfl R8.out Try.underlying30 rfl (by rw [byteVals_length, HAL.out]; exact arr16P.info)) ?_)
              | (go_at_call 24; refine HH.out.mono ?_; rintro e w7 ⟨rfl, b7⟩))
            go_ret
            exact ⟨rfl, (HZ6.out.up b7).z.below⟩
        · have hlt : j < L.length := by omega
          obtain ⟨y, hy⟩ : ∃ y, L[j]? = some y := ⟨_, List.getElem?_eq_getElem hlt⟩
          have hmem := List.mem_of_getElem? hy
          have hy16 := (HORD.out.2 y hmem).2.1
          obtain ⟨b, k, rfl, hbw, hr⟩ := isC_at hz.lst j y hy
          have hjj : (j : Int) < (L.length : Int) := by omega
          have hr2 := range_pre hr
          have HHJ := Lib.hid (fun W (hb : Below wr.heap.size wr W) => (⟨hz.z.box.up hb, fun i v hv => (hb.cell (p := ⟨b, k + j * 19 + i, none⟩) hbw).trans (hr2 i v hv)⟩ : HeldJ w.heap.size (byteVals a) b (k + j * 19) y.1.row W))
          have hxl : wr.cell? ⟨C, 17, none⟩ = some (.int .i64 x.1.len) := by
            rw [hz.xb.cell]
            unfold itR
            rw [List.getElem?_append_left (by rw [row_len HX16.out]; omega)]
            exact row_plen HX16.out
          have hC := hz.xb.lt
          have HHM := Lib.hid (fun W (hb : Below wr.heap.size wr W) => (⟨(hb.cell (p := ⟨b, k + j * 19 + 17, none⟩) hbw).trans (hr2 17 _ (row_plen hy16)), (hb.cell (p := ⟨C, 17, none⟩) hC).trans hxl⟩ : HeldM b (k + j * 19) C y.1.len x.1.len W))
          have HH := Lib.hid (fun W => qhas_any y.1 a W hy16 HAL.out)
          have HY16 := Lib.hid hy16
          have HSN := Lib.hid (show (L.take (j + 1)).any (fun y => hasP y.1 a) = ((L.take j).any (fun y => hasP y.1 a) || hasP y.1 a) by rw [take_snoc hy, any_snoc])
          have hle := HF1.out y hmem
          have HZ := Lib.hid hz
          clear hz hr hr2 hxl hC hy16 hmem hy
          generalize (L.take j).any (fun y => hasP y.1 a) = sb at *
          generalize hasP y.1 a = hb0 at *
          go_wp2
          refine wp_region_noPanic ?_
          refine wp_region_held_drew (S := HeldJ w.heap.size (byteVals a) b (k + j * 19) y.1.row) (by kernel_rfl) (HHJ.out _ (Below.refl _ _).drew) (fun hHeld => ?_)
          refine held_take (v := ?v277) 0 rfl (by kernel_rfl) (by kernel_rfl) (by kernel_rfl) (fun _ _ _ h => h) (by rfl) ?y277 (by assumption) ?_
          case y277 => (intro w hSw; unfold HeldJ at hSw; go_simp; (try with_reducible rfl); (try omega))
          simp only [List.setIfInBounds_toArray, List.set_cons_zero, List.set_cons_succ]
          refine held_take (v := ?v280) 1 rfl (by kernel_rfl) (by kernel_rfl) (by kernel_rfl) (fun _ _ _ h => h) (by rfl) ?y280 (by assumption) ?_
          case y280 => (intro w hSw; unfold HeldJ at hSw; go_simp; (try with_reducible rfl); (try omega))
          simp only [List.setIfInBounds_toArray, List.set_cons_zero, List.set_cons_succ]
          refine held_take (v := ?v283) 2 rfl (by kernel_rfl) (by kernel_rfl) (by kernel_rfl) (fun _ _ _ h => h) (by rfl) ?y283 (by assumption) ?_
          case y283 => (intro w hSw; unfold HeldJ at hSw; go_simp; (try with_reducible rfl); (try omega))
          simp only [List.setIfInBounds_toArray, List.set_cons_zero, List.set_cons_succ]
          refine held_take (v := ?v286) 3 rfl (by kernel_rfl) (by kernel_rfl) (by kernel_rfl) (fun _ _ _ h => h) (by rfl) ?y286 (by assumption) ?_
          case y286 => (intro w hSw; unfold HeldJ at hSw; go_simp; (try with_reducible rfl); (try omega))
          simp only [List.setIfInBounds_toArray, List.set_cons_zero, List.set_cons_succ]
          refine held_take (v := y.1.val) 4 rfl (by kernel_rfl) (by kernel_rfl) (by kernel_rfl) (fun _ _ _ h => h) (by rfl) (fun W hSw => exec_load_any _ (.tmp 61) rfl b (k + j * 19) y.1.row _ rfl hSw.2 Try.underlying32 rfl (pf_infoC HY16.out)) (by assumption) ?_
          simp only [List.setIfInBounds_toArray, List.set_cons_zero, List.set_cons_succ]
          refine held_take (v := arrV a) 5 rfl (by kernel_rfl) (by kernel_rfl) (by kernel_rfl) (fun _ _ _ h => h) (by rfl) (fun W hSw => exec_load_any _ (.tmp 5) rfl w.heap.size 0 (byteVals a) _ rfl (rangeAll hSw.1) Try.underlying30 rfl (by rw [byteVals_length, HAL.out]; exact arr16P.info)) (by assumption) ?_
          simp only [List.setIfInBounds_toArray, List.set_cons_zero, List.set_cons_succ]
          refine held_one 6 rfl (by kernel_rfl) (by rfl) (fun K hK => ?_)
          go_simp
          refine (HH.out _).mono ?_
          rintro e w6 ⟨rfl, b6⟩
          have hb6 : Below wr.heap.size wr w6 := (Below.refl wr.heap.size wr).drew.trans b6
          have hH6 := HHJ.out _ hb6
          refine hK.out _ _ hH6 (fun _ => ?_)
          clear hK K b6
          refine held_take (v := ?v301) 7 rfl (by kernel_rfl) (by kernel_rfl) (by kernel_rfl) (fun _ _ _ h => h) (by rfl) ?y301 (by assumption) ?_
          case y301 => (intro w hSw; unfold HeldJ at hSw; go_simp; (try with_reducible rfl); (try omega))
          simp only [List.setIfInBounds_toArray, List.set_cons_zero, List.set_cons_succ]
          refine wpAnyH_done (by kernel_rfl) ?_ _
          refine NoPanic.normal ?_
          have z6 := HZ.out.up hb6
          have HM6 := Lib.hid (HHM.out _ (below_up hb6 (Below.refl _ _).drew hb6.size))
          have HZ6 := Lib.hid z6
          clear hHeld hb6 hH6 HHM HHJ HZ z6 HH
          cases hb0 with
          | false =>
            have HSN2 := HSN.out
            rw [Bool.or_false] at HSN2
            have HSN3 := Lib.hid HSN2
            clear HSN2 hle
            cases sb <;> (
              go_wp2
              refine wp_region_noPanic ?_
              refine wp_region_held_drew (S := HeldN) (by kernel_rfl) trivial (fun hHeld => ?_)
              refine held_take (v := ?v320) 0 rfl (by kernel_rfl) (by kernel_rfl) (by kernel_rfl) (fun _ _ _ h => h) (by rfl) ?y320 (by assumption) ?_
              case y320 => (intro w hSw; unfold HeldN at hSw; go_simp; (try with_reducible rfl); (try omega))
              simp only [List.setIfInBounds_toArray, List.set_cons_zero, List.set_cons_succ]
              refine held_take (v := ?v323) 1 rfl (by kernel_rfl) (by kernel_rfl) (by kernel_rfl) (fun _ _ _ h => h) (by rfl) ?y323 (by assumption) ?_
              case y323 => (intro w hSw; unfold HeldN at hSw; go_simp; (try with_reducible rfl); (try omega))
              simp only [List.setIfInBounds_toArray, List.set_cons_zero, List.set_cons_succ]
              refine held_skip 2 rfl (by kernel_rfl) (by kernel_rfl) (by kernel_rfl) (fun _ _ _ h => h) (by rfl) (by assumption) ?_
              simp only [List.setIfInBounds_toArray, List.set_cons_zero, List.set_cons_succ]
              refine held_skip 3 rfl (by kernel_rfl) (by kernel_rfl) (by kernel_rfl) (fun _ _ _ h => h) (by rfl) (by assumption) ?_
              simp only [List.setIfInBounds_toArray, List.set_cons_zero, List.set_cons_succ]
              refine held_skip 4 rfl (by kernel_rfl) (by kernel_rfl) (by kernel_rfl) (fun _ _ _ h => h) (by rfl) (by assumption) ?_
              simp only [List.setIfInBounds_toArray, List.set_cons_zero, List.set_cons_succ]
              refine held_skip 5 rfl (by kernel_rfl) (by kernel_rfl) (by kernel_rfl) (fun _ _ _ h => h) (by rfl) (by assumption) ?_
              simp only [List.setIfInBounds_toArray, List.set_cons_zero, List.set_cons_succ]
              refine held_skip 6 rfl (by kernel_rfl) (by kernel_rfl) (by kernel_rfl) (fun _ _ _ h => h) (by rfl) (by assumption) ?_
              simp only [List.setIfInBounds_toArray, List.set_cons_zero, List.set_cons_succ]
              refine held_skip 7 rfl (by kernel_rfl) (by kernel_rfl) (by kernel_rfl) (fun _ _ _ h => h) (by rfl) (by assumption) ?_
              simp only [List.setIfInBounds_toArray, List.set_cons_zero, List.set_cons_succ]
              refine held_skip 8 rfl (by kernel_rfl) (by kernel_rfl) (by kernel_rfl) (fun _ _ _ h => h) (by rfl) (by assumption) ?_
              simp only [List.setIfInBounds_toArray, List.set_cons_zero, List.set_cons_succ]
              refine held_skip 9 rfl (by kernel_rfl) (by kernel_rfl) (by kernel_rfl) (fun _ _ _ h => h) (by rfl) (by assumption) ?_
              simp only [List.setIfInBounds_toArray, List.set_cons_zero, List.set_cons_succ]
              refine held_skip 10 rfl (by kernel_rfl) (by kernel_rfl) (by kernel_rfl) (fun _ _ _ h => h) (by rfl) (by assumption) ?_
              simp only [List.setIfInBounds_toArray, List.set_cons_zero, List.set_cons_succ]
              refine held_skip 11 rfl (by kernel_rfl) (by kernel_rfl) (by kernel_rfl) (fun _ _ _ h => h) (by rfl) (by assumption) ?_
              simp only [List.setIfInBounds_toArray, List.set_cons_zero, List.set_cons_succ]
              refine held_take (v := ?v346) 12 rfl (by kernel_rfl) (by kernel_rfl) (by kernel_rfl) (fun _ _ _ h => h) (by rfl) ?y346 (by assumption) ?_
              case y346 => (intro w hSw; unfold HeldN at hSw; go_simp; (try with_reducible rfl); (try omega))
              simp only [List.setIfInBounds_toArray, List.set_cons_zero, List.set_cons_succ]
              refine wpAnyH_done (by kernel_rfl) ?_ _
              refine NoPanic.normal ?_
              go_wp2
              go_roundw
              case rel => exact ⟨j + 1, by omega, by go_num, by rw [HSN3.out], HZ6.out.up (Below.refl _ _).drew⟩
              case measure => simp [intOf]; omega)
          | true =>
            have hle2 := hle rfl
            have HSN2 := HSN.out
            rw [Bool.or_true] at HSN2
            have HSN3 := Lib.hid HSN2
            clear HSN2 hle
            cases sb <;> (
              go_wp2
              refine wp_region_noPanic ?_
              refine wp_region_held_drew (S := HeldM b (k + j * 19) C y.1.len x.1.len) (by kernel_rfl) HM6.out (fun hHeld => ?_)
              refine held_take (v := ?v365) 0 rfl (by kernel_rfl) (by kernel_rfl) (by kernel_rfl) (fun _ _ _ h => h) (by rfl) ?y365 (by assumption) ?_
              case y365 => (intro w hSw; unfold HeldM at hSw; go_simp; (try with_reducible rfl); (try omega))
              simp only [List.setIfInBounds_toArray, List.set_cons_zero, List.set_cons_succ]
              refine held_take (v := ?v368) 1 rfl (by kernel_rfl) (by kernel_rfl) (by kernel_rfl) (fun _ _ _ h => h) (by rfl) ?y368 (by assumption) ?_
              case y368 => (intro w hSw; unfold HeldM at hSw; go_simp; (try with_reducible rfl); (try omega))
              simp only [List.setIfInBounds_toArray, List.set_cons_zero, List.set_cons_succ]
              refine held_take (v := ?v371) 2 rfl (by kernel_rfl) (by kernel_rfl) (by kernel_rfl) (fun _ _ _ h => h) (by rfl) ?y371 (by assumption) ?_
              case y371 => (intro w hSw; unfold HeldM at hSw; go_simp; (try with_reducible rfl); (try omega))
              simp only [List.setIfInBounds_toArray, List.set_cons_zero, List.set_cons_succ]
              refine held_take (v := ?v374) 3 rfl (by kernel_rfl) (by kernel_rfl) (by kernel_rfl) (fun _ _ _ h => h) (by rfl) ?y374 (by assumption) ?_
              case y374 => (intro w hSw; unfold HeldM at hSw; go_simp; (try with_reducible rfl); (try omega))
              simp only [List.setIfInBounds_toArray, List.set_cons_zero, List.set_cons_succ]
              refine held_take (v := ?v377) 4 rfl (by kernel_rfl) (by kernel_rfl) (by kernel_rfl) (fun _ _ _ h => h) (by rfl) ?y377 (by assumption) ?_
              case y377 => (intro w hSw; unfold HeldM at hSw; go_simp; (try with_reducible rfl); (try omega))
              simp only [List.setIfInBounds_toArray, List.set_cons_zero, List.set_cons_succ]
              refine held_take (v := ?v380) 5 rfl (by kernel_rfl) (by kernel_rfl) (by kernel_rfl) (fun _ _ _ h => h) (by rfl) ?y380 (by assumption) ?_
              case y380 => (intro w hSw; unfold HeldM at hSw; go_simp; (try with_reducible rfl); (try omega))
              simp only [List.setIfInBounds_toArray, List.set_cons_zero, List.set_cons_succ]
              refine held_take (v := ?v383) 6 rfl (by kernel_rfl) (by kernel_rfl) (by kernel_rfl) (fun _ _ _ h => h) (by rfl) ?y383 (by assumption) ?_
              case y383 => (intro w hSw; unfold HeldM at hSw; go_simp; (try with_reducible rfl); (try omega))
              simp only [List.setIfInBounds_toArray, List.set_cons_zero, List.set_cons_succ]
              refine held_take (v := ?v386) 7 rfl (by kernel_rfl) (by kernel_rfl) (by kernel_rfl) (fun _ _ _ h => h) (by rfl) ?y386 (by assumption) ?_
              case y386 => (intro w hSw; unfold HeldM at hSw; go_simp; (try with_reducible rfl); (try omega))
              simp only [List.setIfInBounds_toArray, List.set_cons_zero, List.set_cons_succ]
              refine held_take (v := ?v389) 8 rfl (by kernel_rfl) (by kernel_rfl) (by kernel_rfl) (fun _ _ _ h => h) (by rfl) ?y389 (by assumption) ?_
              case y389 => (intro w hSw; unfold HeldM at hSw; go_simp; (try with_reducible rfl); (try omega))
              simp only [List.setIfInBounds_toArray, List.set_cons_zero, List.set_cons_succ]
              refine held_take (v := ?v392) 9 rfl (by kernel_rfl) (by kernel_rfl) (by kernel_rfl) (fun _ _ _ h => h) (by rfl) ?y392 (by assumption) ?_
              case y392 => (intro w hSw; unfold HeldM at hSw; go_simp; (try with_reducible rfl); (try omega))
              simp only [List.setIfInBounds_toArray, List.set_cons_zero, List.set_cons_succ]
              refine held_take (v := ?v395) 10 rfl (by kernel_rfl) (by kernel_rfl) (by kernel_rfl) (fun _ _ _ h => h) (by rfl) ?y395 (by assumption) ?_
              case y395 => (intro w hSw; unfold HeldM at hSw; go_simp; (try with_reducible rfl); (try omega))
              simp only [List.setIfInBounds_toArray, List.set_cons_zero, List.set_cons_succ]
              refine held_take (v := ?v398) 11 rfl (by kernel_rfl) (by kernel_rfl) (by kernel_rfl) (fun _ _ _ h => h) (by rfl) ?y398 (by assumption) ?_
              case y398 => (intro w hSw; unfold HeldM at hSw; go_simp; (try with_reducible rfl); (try omega))
              simp only [List.setIfInBounds_toArray, List.set_cons_zero, List.set_cons_succ]
              (try rw [decide_eq_false (show ¬ (x.1.len < y.1.len) by omega)])
              refine held_take (v := ?v402) 12 rfl (by kernel_rfl) (by kernel_rfl) (by kernel_rfl) (fun _ _ _ h => h) (by rfl) ?y402 (by assumption) ?_
              case y402 => (intro w hSw; unfold HeldM at hSw; go_simp; (try with_reducible rfl); (try omega))
              simp only [List.setIfInBounds_toArray, List.set_cons_zero, List.set_cons_succ]
              refine wpAnyH_done (by kernel_rfl) ?_ _
              refine NoPanic.normal ?_
              go_wp2
              go_roundw
              case rel => exact ⟨j + 1, by omega, by go_num, by rw [HSN3.out], HZ6.out.up (Below.refl _ _).drew⟩
              case measure => simp [intOf]; omega)
    · have hlt : i < st.length := by omega
      obtain ⟨s, hs⟩ : ∃ s, st[i]? = some s := ⟨_, List.getElem?_eq_getElem hlt⟩
      have h16 := HOK.out s (List.mem_of_getElem? hs)
      obtain ⟨b, k, rfl, hbw, q0, q1, q2⟩ := step_at HSC.out i s hs h16
      have hii : (i : Int) < (st.length : Int) := by omega
      have HPU := Lib.hid (fun W (h : LongZ w a g six 50 (putS six 50 (st.take i)) (1 + 150 * i) W) => h.put s.p s.v h16 (by omega))
      have hHS : ∀ W, Below w.heap.size w W → HeldS b (k + i * 20) s.p.row s.v W := fun W hW => ⟨fun j v hv => (hW.cell (p := ⟨b, k + i * 20 + 1 + j, none⟩) hbw).trans (q1 j v hv), (hW.cell (p := ⟨b, k + i * 20 + 19, none⟩) hbw).trans q2⟩
      have HHS := Lib.hid hHS
      have H16 := Lib.hid h16
      have HSN := Lib.hid (show putS six 50 (st.take (i + 1)) = putLst six 50 (putS six 50 (st.take i)) s.p s.v by rw [take_snoc hs, putS_snoc])
      have HZ := Lib.hid hz
      clear hHS h16 q0 q1 q2 hz
      go_wp2
      refine wp_region_noPanic ?_
      refine wp_region_held_drew (S := HeldS b (k + i * 20) s.p.row s.v) (by kernel_rfl) (HHS.out _ HZ.out.below.drew) (fun hHeld => ?_)
      have hz1 := HZ.out.up (Below.refl _ _).drew
      clear HZ
      generalize wr.drew = W1 at *
      refine held_take (v := ?v429) 0 rfl (by kernel_rfl) (by kernel_rfl) (by kernel_rfl) (fun _ _ _ h => h) (by rfl) ?y429 (by assumption) ?_
      case y429 => (intro w hSw; unfold HeldS at hSw; go_simp; (try with_reducible rfl); (try omega))
      simp only [List.setIfInBounds_toArray, List.set_cons_zero, List.set_cons_succ]
      refine held_take (v := ?v432) 1 rfl (by kernel_rfl) (by kernel_rfl) (by kernel_rfl) (fun _ _ _ h => h) (by rfl) ?y432 (by assumption) ?_
      case y432 => (intro w hSw; unfold HeldS at hSw; go_simp; (try with_reducible rfl); (try omega))
      simp only [List.setIfInBounds_toArray, List.set_cons_zero, List.set_cons_succ]
      refine held_take (v := ?v435) 2 rfl (by kernel_rfl) (by kernel_rfl) (by kernel_rfl) (fun _ _ _ h => h) (by rfl) ?y435 (by assumption) ?_
      case y435 => (intro w hSw; unfold HeldS at hSw; go_simp; (try with_reducible rfl); (try omega))
      simp only [List.setIfInBounds_toArray, List.set_cons_zero, List.set_cons_succ]
      refine held_take (v := ?v438) 3 rfl (by kernel_rfl) (by kernel_rfl) (by kernel_rfl) (fun _ _ _ h => h) (by rfl) ?y438 (by assumption) ?_
      case y438 => (intro w hSw; unfold HeldS at hSw; go_simp; (try with_reducible rfl); (try omega))
      simp only [List.setIfInBounds_toArray, List.set_cons_zero, List.set_cons_succ]
      refine held_take (v := ?v441) 4 rfl (by kernel_rfl) (by kernel_rfl) (by kernel_rfl) (fun _ _ _ h => h) (by rfl) ?y441 (by assumption) ?_
      case y441 => (intro w hSw; unfold HeldS at hSw; go_simp; (try with_reducible rfl); (try omega))
      simp only [List.setIfInBounds_toArray, List.set_cons_zero, List.set_cons_succ]
      refine held_take (v := s.p.val) 5 rfl (by kernel_rfl) (by kernel_rfl) (by kernel_rfl) (fun _ _ _ h => h) (by rfl) (fun W hSw => exec_load_any _ (.tmp 36) rfl b (k + i * 20 + 1) s.p.row _ rfl hSw.1 Try.underlying32 rfl (pf_infoC H16.out)) (by assumption) ?_
      simp only [List.setIfInBounds_toArray, List.set_cons_zero, List.set_cons_succ]
      refine held_take (v := ?v446) 6 rfl (by kernel_rfl) (by kernel_rfl) (by kernel_rfl) (fun _ _ _ h => h) (by rfl) ?y446 (by assumption) ?_
      case y446 => (intro w hSw; unfold HeldS at hSw; go_simp; (try with_reducible rfl); (try omega))
      simp only [List.setIfInBounds_toArray, List.set_cons_zero, List.set_cons_succ]
      refine held_take (v := ?v449) 7 rfl (by kernel_rfl) (by kernel_rfl) (by kernel_rfl) (fun _ _ _ h => h) (by rfl) ?y449 (by assumption) ?_
      case y449 => (intro w hSw; unfold HeldS at hSw; go_simp; (try with_reducible rfl); (try omega))
      simp only [List.setIfInBounds_toArray, List.set_cons_zero, List.set_cons_succ]
      refine held_take (v := ?v452) 8 rfl (by kernel_rfl) (by kernel_rfl) (by kernel_rfl) (fun _ _ _ h => h) (by rfl) ?y452 (by assumption) ?_
      case y452 => (intro w hSw; unfold HeldS at hSw; go_simp; (try with_reducible rfl); (try omega))
      simp only [List.setIfInBounds_toArray, List.set_cons_zero, List.set_cons_succ]
      refine held_take (v := ?v455) 9 rfl (by kernel_rfl) (by kernel_rfl) (by kernel_rfl) (fun _ _ _ h => h) (by rfl) ?y455 (by assumption) ?_
      case y455 => (intro w hSw; unfold HeldS at hSw; go_simp; (try with_reducible rfl); (try omega))
      simp only [List.setIfInBounds_toArray, List.set_cons_zero, List.set_cons_succ]
      refine held_take (v := ?v458) 10 rfl (by kernel_rfl) (by kernel_rfl) (by kernel_rfl) (fun _ _ _ h => h) (by rfl) ?y458 (by assumption) ?_
      case y458 => (intro w hSw; unfold HeldS at hSw; go_simp; (try with_reducible rfl); (try omega))
      simp only [List.setIfInBounds_toArray, List.set_cons_zero, List.set_cons_succ]
      refine held_one 11 rfl (by kernel_rfl) (by rfl) (fun K hK => ?_)
      go_simp
      refine (HPU.out _ hz1).mono ?_
      rintro e w3 ⟨rfl, z3⟩
      refine hK.out _ _ (HHS.out _ z3.below) (fun _ => ?_)
      clear hK K hHeld hz1
      refine wpAnyH_done (by kernel_rfl) ?_ _
      refine NoPanic.normal ?_
      rw [← HSN.out] at z3
      have HZ3 := Lib.hid z3
      clear z3 HPU
      go_wp2
      go_roundw
      case rel => exact ⟨i + 1, by omega, by go_num, by rw [show 1 + 150 * (i + 1) = 1 + 150 * i + 150 by omega]; exact HZ3.out⟩
      case measure => simp [intOf]; omega
end Go.Proofs.Ytbbmckmhgggeeaa

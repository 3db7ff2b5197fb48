/- Stage 14: the live example. -/
import Derived.Test.YtoliijajhikhgaaDoorZ14
namespace Go.Proofs.YtoliijajhikhgaaDoor
open Go Go.RowKit Go.Shelf
attribute [local go_sem] Oper.semAt_some

def exX : Value := .iface 9 (.string ⟨#[120]⟩)
def ex7 : Value := .iface 3 (.int .i64 7)
theorem built_hop0 : Tryd.prog.built 25 [] = some hop0.toArray := by kernel_rfl
theorem built_hop3 : Tryd.prog.built 25 [(2, .int .i64 3)] = some (hopR 0 (.slice none 0 0) 3 0 (.slice none 0 0) false).toArray := by kernel_rfl
theorem below_fresh (w : World) (o : Obj) (cs : Array Value) : Below w.heap.size w ((w.alloc o).setRow w.heap.size cs) := below_row ((Below.refl _ _).alloc (Nat.le_refl _) _) (Nat.le_refl _) _
theorem ints_two {W : World} {b : Nat} {x y : Int} (h : Bx W b 3 [.int .i64 x, .int .i64 y]) : IsC intR 1 W (.slice (some ⟨b, 0, none⟩) 2 2) [x, y] := by
  refine ⟨fun _ _ => rfl, _, 2, rfl, by simp, by simp [maxLen], fun _ => ⟨b, 0, rfl, h.lt, ?_⟩⟩
  have := rangeAll h
  simpa [intR] using this
set_option maxRecDepth 100000 in
set_option maxHeartbeats 8000000 in
theorem awake14 (w : World) (hz : TzE w w.heap.size) : Calls Tryd.prog 5 #[] w fun e w' => e = .returned (.bool true) ∧ Below w.heap.size w w' := by
  have HNEW := Lib.hid (Z14.new (n := 2) (by decide) (by decide) hz (Below.refl w.heap.size w))
  go_enter Tryd.func5, Tryd.ntmps5
  go_wp2_with (go_at_call 7; refine HNEW.out.mono ?_; rintro e w1 ⟨pt, rfl, z1, _⟩; refine Hid.out ?_)
  refine Lib.hid ?_
  have H1 := Lib.hid (z1.addText ⟨#[120]⟩ (by decide) (by decide) (by decide))
  rw [show addT [] (.iface 9 (.string ⟨#[120]⟩)) = [(exX, 1)] from rfl, show freeU (usT []) = 0 from rfl] at H1
  clear z1 HNEW
  go_wp2_with (go_at_call 17; refine H1.out.mono ?_; rintro e w2 ⟨rfl, z2, k2⟩; refine Hid.out ?_)
  refine Lib.hid ?_
  have H2 := Lib.hid (z2.addInt 7 (by decide) (by decide))
  rw [show addT [(exX, 1)] (.iface 3 (.int .i64 7)) = [(exX, 1), (ex7, 1)] from rfl, show freeU (usT [(exX, 1)]) = 1 from rfl] at H2
  clear z2 k2 H1
  go_wp2_with (go_at_call 20; refine H2.out.mono ?_; rintro e w3 ⟨rfl, z3, k3⟩; refine Hid.out ?_)
  refine Lib.hid ?_
  have H3 := Lib.hid (z3.addHopFull 0 (.slice none 0 0) 0 0 (.slice none 0 0) false [] [] (IsC.nil _) (IsC.nil _) (by decide) (by decide) (by decide))
  have Z3 := Lib.hid z3
  clear z3 k3 H2
  go_wp2_with (first
    | (refine wpList_build0 rfl 25 rfl hop0 built_hop0 ?_)
    | (go_at_call 10; refine H3.out.mono ?_; rintro e w4 ⟨rfl, b4⟩; refine Hid.out ?_))
  refine Lib.hid ?_
  have Z4 := Lib.hid (Z3.out.up b4)
  have H4 := Lib.hid (Z4.out.text 0 ⟨#[120]⟩ 1 rfl)
  clear b4 H3 Z3
  go_wp2_with (go_at_call 19; refine H4.out.mono ?_; rintro e w5 ⟨rfl, b5⟩; refine Hid.out ?_)
  refine Lib.hid ?_
  have Z5 := Lib.hid (Z4.out.up b5)
  have H5 := Lib.hid (Z5.out.intNo 0 (.string ⟨#[120]⟩) 1 rfl)
  clear b5 H4 Z4
  go_wp2_with (go_at_call 21; refine H5.out.mono ?_; rintro e w6 ⟨rfl, b6⟩; refine Hid.out ?_)
  refine Lib.hid ?_
  have Z6 := Lib.hid (Z5.out.up b6)
  clear b6 H5 Z5
  have H6 := Lib.hid ((Z6.out.up ((Below.refl _ _).alloc (Nat.le_refl _) _)).sum [1, 1] _ (ints_two (Bx.new w6 3 [.int .i64 1, .int .i64 1])) (by decide) (fun x hx => ⟨1, by
    have : x = 1 := by simpa using hx
    subst this; rfl⟩))
  rw [show (7 * (([1, 1] : List Int).length : Int)) = 14 from rfl] at H6
  go_wp2_with (go_at_call 22; refine H6.out.mono ?_; rintro e w7 ⟨rfl, b7⟩; refine Hid.out ?_)
  refine Lib.hid ?_
  have Z7 := Lib.hid ((Z6.out.up ((Below.refl _ _).alloc (Nat.le_refl _) _)).up b7)
  have H7 := Lib.hid ((Z7.out.up ((Below.refl _ _).alloc (Nat.le_refl _) _)).sumNo [1] [] 0 (.string ⟨#[120]⟩) _ (ints_two (Bx.new w7 3 [.int .i64 1, .int .i64 0])) (by decide) (fun x hx => ⟨1, by
    have : x = 1 := by simpa using hx
    subst this; rfl⟩) 1 rfl)
  clear b7 H6 Z6
  go_wp2_with (go_at_call 22; refine H7.out.mono ?_; rintro e w8 ⟨rfl, b8⟩; refine Hid.out ?_)
  refine Lib.hid ?_
  have Z8 := Lib.hid ((Z7.out.up ((Below.refl _ _).alloc (Nat.le_refl _) _)).up b8)
  have H8 := Lib.hid (Z8.out.ref 0 (exX, 1) rfl (by decide) (by decide))
  rw [show ([(exX, 1), (ex7, 1)] : List (Value × Int)).set 0 ((exX, (1 : Int)).1, (exX, (1 : Int)).2 + 1) = [(exX, 2), (ex7, 1)] from rfl, show ((0 : Nat) : Int) = 0 from rfl] at H8
  clear b8 H7 Z7
  go_wp2_with (go_at_call 11; refine H8.out.mono ?_; rintro e w9 ⟨rfl, z9, _⟩; refine Hid.out ?_)
  refine Lib.hid ?_
  have H9 := Lib.hid (z9.unrefMore 0 (exX, 2) rfl (by decide) (by decide))
  rw [show ([(exX, 2), (ex7, 1)] : List (Value × Int)).set 0 ((exX, (2 : Int)).1, (exX, (2 : Int)).2 - 1) = [(exX, 1), (ex7, 1)] from rfl, show ((0 : Nat) : Int) = 0 from rfl] at H9
  clear z9 H8 Z8
  go_wp2_with (go_at_call 16; refine H9.out.mono ?_; rintro e w10 ⟨rfl, z10, _⟩; refine Hid.out ?_)
  refine Lib.hid ?_
  have HW10 := Lib.hid (z10.unrefLast 0 (exX, 1) rfl rfl (by decide))
  rw [show ([(exX, 1), (ex7, 1)] : List (Value × Int)).set 0 (.nilIface, 0) = [(.nilIface, 0), (ex7, 1)] from rfl, show ((0 : Nat) : Int) = 0 from rfl] at HW10
  clear z10 H9
  go_wp2_with (go_at_call 16; refine HW10.out.mono ?_; rintro e w11 ⟨rfl, z11, _⟩; refine Hid.out ?_)
  refine Lib.hid ?_
  have HW11 := Lib.hid (z11.addHop 0 (.slice none 0 0) 3 0 (.slice none 0 0) false [] [] (IsC.nil _) (IsC.nil _) (by decide) (by decide) (by decide) (by decide))
  rw [show freeU (usT [(.nilIface, 0), (ex7, 1)]) = 0 from rfl, show ((0 : Nat) : Int) = 0 from rfl] at HW11
  clear z11 HW10
  go_wp2_with (first
    | (refine wpList_build1 rfl 25 2 _ rfl (.int .i64 3) (hopR 0 (.slice none 0 0) 3 0 (.slice none 0 0) false) rfl built_hop3 ?_)
    | (go_at_call 10; refine HW11.out.mono ?_; rintro e w12 ⟨rfl, L', R', ol, or, z12, _⟩; refine Hid.out ?_))
  refine Lib.hid ?_
  have z12' : Z14 w pt 2 [(.iface 25 (.agg (hopR 0 L' 3 0 R' false).toArray), 1), (ex7, 1)] w12 := z12
  have HW12 := Lib.hid (z12'.hop 0 L' 3 0 R' false [] [] 0 1 (IsC.of_owned (fun _ h => by cases h) ol) (IsC.of_owned (fun _ h => by cases h) or) (by decide) (by decide) rfl)
  have ZW12 := Lib.hid z12'
  clear z12 z12' HW11 ol or
  go_wp2_with (go_at_call 12; refine HW12.out.mono ?_; rintro e w13 ⟨L2, R2, rfl, _, _, hL2, hR2, b13⟩; refine Hid.out ?_)
  refine Lib.hid ?_
  have ZW13 := Lib.hid (ZW12.out.up b13)
  clear b13 HW12 ZW12
  have hb13 := ZW13.out.b
  have HX := Lib.hid ((Bx.new w13 25 hop0).row (hopR 0 L2 3 0 R2 false))
  have HX0 := Lib.hid (Bx.new w13 25 hop0)
  have ZX := Lib.hid (ZW13.out.up (below_fresh w13 (.cells hop0.toArray 25) (hopR 0 L2 3 0 R2 false).toArray))
  have ez : (#[.int .i64 0, .slice none 0 0, .int .i64 0, .int .i64 0, .slice none 0 0, .bool false] : Array Value) = hop0.toArray := rfl
  have c2 := (HX.out.cell 2).trans (show _ = some (.int .i64 3) from rfl)
  have HU := Lib.hid (ZX.out.uses 1)
  rw [show (atT [(.iface 25 (.agg (hopR 0 L' 3 0 R' false).toArray), 1), (ex7, 1)] 1).2 = 1 from rfl] at HU
  clear hb13
  go_wp2_with (first
    | (refine wpList_store_bx rfl 25 (.tmp 23) (.tmp 86) rfl w13.heap.size (hopR 0 L2 3 0 R2 false) _ rfl rfl HX0.out hop_info rfl (hopR_one 0 3 0 false hL2 hR2) ?_)
    | (go_at_call 13; refine HU.out.mono ?_; rintro e w15 ⟨rfl, b15⟩; refine Hid.out ?_))
  refine Lib.hid ?_
  have Z15 := Lib.hid (ZX.out.up b15)
  have HLE := Lib.hid Z15.out.len
  rw [show (cntU (usT [(.iface 25 (.agg (hopR 0 L' 3 0 R' false).toArray), 1), (ex7, 1)]) : Int) = 2 from rfl] at HLE
  clear HU b15 c2 HX HX0 ZX
  go_wp2_with (first
    | (go_at_call 14; refine HLE.out.mono ?_; rintro e _ ⟨rfl, rfl⟩)
    | (go_at_call 7; refine (pnew_no 0 w15 (by decide)).mono ?_; rintro e _ ⟨rfl, rfl⟩))
  go_ret
  exact ⟨rfl, Z15.out.b⟩
end Go.Proofs.YtoliijajhikhgaaDoor

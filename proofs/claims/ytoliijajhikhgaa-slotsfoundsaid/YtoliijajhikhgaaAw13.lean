/- Stage 13: the document's example at work. -/
import Derived.Test.YtoliijajhikhgaaSl5
import Derived.Test.YtoliijajhikhgaaSl8
import Derived.Test.YtoliijajhikhgaaSl9
import Derived.Test.YtoliijajhikhgaaSlB
namespace Go.Proofs.Ytoliijajhikhgaa
open Go Go.RowKit Go.Shelf
attribute [local go_sem] Oper.semAt_some

/-- A table of the call's own. -/
structure Z13 (w : World) (pt g wd room : Nat) (L : List (Int × Int)) (W : World) : Prop where
  t : TbL W pt g wd room L
  b : Below w.heap.size w W
  hp : w.heap.size ≤ pt
  hg : w.heap.size ≤ g
theorem Z13.up {w : World} {pt g wd room : Nat} {L : List (Int × Int)} {W W' : World} (h : Z13 w pt g wd room L W) (hb : Below W.heap.size W W') : Z13 w pt g wd room L W' := ⟨h.t.up hb, below_up h.b hb h.b.size, h.hp, h.hg⟩
theorem own_base {w W W' : World} {pt g : Nat} (hb : Below w.heap.size w W) (hp : w.heap.size ≤ pt) (hg : w.heap.size ≤ g) (hk : KpO (OwnT pt g) W W') : Below w.heap.size w W' :=
  hb.trans (hk.base (fun k h => by rcases h with h | h <;> omega) hb.size)
theorem Z13.put {w : World} {pt g wd room : Nat} {L : List (Int × Int)} {W : World} (h : Z13 w pt g wd room L W) (a v : Int) :
    Calls Try.prog 9 #[.pointer (some ⟨pt, 0, none⟩), .int .i64 a, .int .i64 v] W fun e w' => e = .returned (.int .i64 (putQ room a v L).1) ∧ Z13 w pt g wd room (putQ room a v L).2 w' ∧ KpO (OwnT pt g) W w' :=
  (tput_any a v W h.t).mono fun _ _ ⟨h1, h2, h3⟩ => ⟨h1, ⟨h2, own_base h.b h.hp h.hg h3, h.hp, h.hg⟩, h3⟩
theorem Z13.del {w : World} {pt g wd room : Nat} {L : List (Int × Int)} {W : World} (h : Z13 w pt g wd room L W) (a : Int) :
    Calls Try.prog 11 #[.pointer (some ⟨pt, 0, none⟩), .int .i64 a] W fun e w' => e = .returned (.int .i64 (delQ a L).1) ∧ Z13 w pt g wd room (delQ a L).2 w' ∧ KpO (OwnT pt g) W w' :=
  (tdel_any a W h.t).mono fun _ _ ⟨h1, h2, h3⟩ => ⟨h1, ⟨h2, own_base h.b h.hp h.hg h3, h.hp, h.hg⟩, h3⟩
theorem Z13.len {w : World} {pt g wd room : Nat} {L : List (Int × Int)} {W : World} (h : Z13 w pt g wd room L W) :
    Calls Try.prog 15 #[.pointer (some ⟨pt, 0, none⟩)] W fun e w' => e = .returned (.int .i64 (L.length : Int)) ∧ W = w' := by
  obtain ⟨sl, hs⟩ := h.t
  exact tlen_any W hs.m.tb
set_option maxRecDepth 100000 in
set_option maxHeartbeats 4000000 in
theorem awake13_any (w : World) : Calls Try.prog 6 #[] w fun e w' => e = .returned (.bool true) ∧ Below w.heap.size w w' := by
  have HNEW := Lib.hid (new13_yes 2 w (by decide) (by decide))
  have HNO := Lib.hid (fun W => new13_no 0 W (by decide))
  go_enter Try.func6, Try.ntmps6
  go_wp2_with (go_at_call 7; refine HNEW.out.mono ?_; rintro e w1 ⟨pt, g, wd, rfl, h1, h2, h3, h4⟩; refine Hid.out ?_)
  refine Lib.hid ?_
  have z1 : Z13 w pt g wd 2 [] w1 := ⟨h1, h4, h2, h3⟩
  have H1 := Lib.hid (z1.put 5 50)
  rw [show putQ 2 5 50 [] = (0, [(5, 50)]) by decide] at H1
  clear z1 h1 h4 HNEW
  go_wp2_with (go_at_call 9; refine H1.out.mono ?_; rintro e w2 ⟨rfl, z2, _⟩; refine Hid.out ?_)
  refine Lib.hid ?_
  have H2 := Lib.hid (z2.put 1048575 60)
  rw [show putQ 2 1048575 60 [(5, 50)] = (0, [(5, 50), (1048575, 60)]) by decide] at H2
  clear z2 H1
  go_wp2_with (go_at_call 9; refine H2.out.mono ?_; rintro e w3 ⟨rfl, z3, _⟩; refine Hid.out ?_)
  refine Lib.hid ?_
  have H3 := Lib.hid (z3.put 6 70)
  rw [show putQ 2 6 70 [(5, 50), (1048575, 60)] = (30, [(5, 50), (1048575, 60)]) by decide] at H3
  clear z3 H2
  go_wp2_with (go_at_call 9; refine H3.out.mono ?_; rintro e w4 ⟨rfl, z4, _⟩; refine Hid.out ?_)
  refine Lib.hid ?_
  have H4 := Lib.hid (z4.put 5 55)
  rw [show putQ 2 5 55 [(5, 50), (1048575, 60)] = (0, [(5, 55), (1048575, 60)]) by decide] at H4
  clear z4 H3
  go_wp2_with (go_at_call 9; refine H4.out.mono ?_; rintro e w5 ⟨rfl, z5, _⟩; refine Hid.out ?_)
  refine Lib.hid ?_
  have H5 := Lib.hid (tget_any 5 w5 z5.t)
  rw [show getQ 5 [(5, 55), (1048575, 60)] = (55, true) by decide] at H5
  have HZ5 := Lib.hid z5
  clear z5 H4
  go_wp2_with (go_at_call 13; refine H5.out.mono ?_; rintro e w6 ⟨rfl, b6⟩; refine Hid.out ?_)
  refine Lib.hid ?_
  have HZ6 := Lib.hid (HZ5.out.up b6)
  have H6 := Lib.hid (tall_any w6 HZ6.out.t)
  clear b6 HZ5 H5
  go_wp2_with (go_at_call 16; refine H6.out.mono ?_; rintro e w7 ⟨⟨v7, rfl, i7⟩, b7⟩; refine Hid.out ?_)
  refine Lib.hid ?_
  have HZ7 := Lib.hid (HZ6.out.up b7)
  have H7 := Lib.hid HZ7.out.len
  have H8 := Lib.hid (HZ7.out.del 6)
  rw [show delQ 6 [(5, 55), (1048575, 60)] = (31, [(5, 55), (1048575, 60)]) by decide] at H8
  obtain ⟨_, a7, c7, rfl, _, hcm, hcl⟩ := i7
  obtain ⟨bb, kk, rfl, hbb, hrr⟩ := hcl (by decide)
  have hit : w7.rangeAt bb (kk + 1 * 2) (iR (1048575, 60)) := flat_range (iR_all [(5, 55), (1048575, 60)]) hrr 1 _ rfl
  have x0 : w7.cell? ⟨bb, kk + 2, none⟩ = some (.int .i64 1048575) := hit 0 _ rfl
  have x1 : w7.cell? ⟨bb, kk + 2 + 1, none⟩ = some (.int .i64 60) := hit 1 _ rfl
  have HIT := Lib.hid hit
  clear b7 HZ6 H6 hrr hit hcl
  go_wp2_with (first
    | (go_at_call 15; refine H7.out.mono ?_; rintro e w8 ⟨rfl, rfl⟩)
    | (refine plV rfl (.agg #[.int .i64 1048575, .int .i64 60]) (exec_load_any _ (.tmp 58) rfl bb (kk + 2) [.int .i64 1048575, .int .i64 60] _ rfl HIT.out Try.underlying45 rfl it_info13) ?_)
    | (go_at_call 11; refine H8.out.mono ?_; rintro e w8 ⟨rfl, z8, _⟩; refine Hid.out ?_)
    | (go_at_call 7; refine (HNO.out _).mono ?_; rintro e w9 ⟨rfl, rfl⟩))
  refine Lib.hid ?_
  have HZ8 := Lib.hid z8
  clear z8 H8 H7 HZ7
  go_wp2_with (go_at_call 7; refine (HNO.out _).mono ?_; rintro e w9 ⟨rfl, rfl⟩)
  go_ret
  exact ⟨rfl, HZ8.out.b⟩
end Go.Proofs.Ytoliijajhikhgaa

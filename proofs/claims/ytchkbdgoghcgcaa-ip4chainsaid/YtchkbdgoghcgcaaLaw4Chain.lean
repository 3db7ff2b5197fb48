/- Ip4Chain: the walk. -/
import Derived.Test.YtchkbdgoghcgcaaAw4
import Derived.Test.YtchkbdgoghcgcaaAw2
import Derived.Test.YtchkbdgoghcgcaaIpQ
namespace Go.Proofs.Ytchkbdgoghcgcaa
open Go Go.RowKit

def abcL : List UInt8 := [97, 98, 99]
theorem abc_conv (W : World) : ∃ W', (convert 22 22 (.slice (some ⟨W.heap.size, 0, none⟩) 3 3)).run Try.prog (W.alloc (.cells #[.int .u8 97, .int .u8 98, .int .u8 99] 5)) = .ok (.slice (some ⟨W.heap.size, 0, none⟩) 3 3) W' ∧ IsB W' (.slice (some ⟨W.heap.size, 0, none⟩) 3 3) abcL ∧ Below W.heap.size W W' :=
  conv_const W abcL _ rfl 3 rfl (by decide)

set_option maxRecDepth 100000 in
set_option maxHeartbeats 4000000 in
theorem chain4_walk (h : Hdr) (qa qb : Int) (w : World) (hid : h.id ≤ 65535) (ha0 : 0 ≤ qa) (ha1 : qa ≤ 255) (hb0 : 0 ≤ qb) (hb1 : qb ≤ 255) :
    Calls Try.prog 8 #[h.val, .int .u8 qa, .int .u8 qb] w fun e w' => e = .returned (.bool true) ∧ Below w.heap.size w w' := by
  obtain ⟨ta, hta⟩ : ∃ t : UInt8, qa = (t.toNat : Int) := ⟨UInt8.ofNat qa.toNat, by rw [UInt8.toNat_ofNat_of_lt' (show qa.toNat < 256 by omega)]; omega⟩
  obtain ⟨tb, htb⟩ : ∃ t : UInt8, qb = (t.toNat : Int) := ⟨UInt8.ofNat qb.toNat, by rw [UInt8.toNat_ofNat_of_lt' (show qb.toNat < 256 by omega)]; omega⟩
  have b0 : Below w.heap.size w (w.alloc (.cells h.cells 27)) := (Below.refl _ _).alloc (Nat.le_refl _) _
  have hg0 := heap_alloc_new w (.cells h.cells 27)
  have HA := Lib.hid (awake4_any (w.alloc (.cells h.cells 27)))
  have HC : Hid (∀ W, Below (w.alloc (.cells h.cells 27)).heap.size (w.alloc (.cells h.cells 27)) W → W.heap[w.heap.size]? = some (.cells h.cells 27 (0, 0)) ∧ Below w.heap.size w W) := by
    intro W hb
    exact ⟨(hb.block w.heap.size (by simp)).trans hg0, below_up b0 hb b0.size⟩
  rw [show h.val = .agg h.cells from rfl]
  clear b0 hg0
  rcases putC4_cases h 3 with ⟨hC, f, hn⟩ | ⟨hC, hP⟩
  · have fb : ({ h with ttl := tb } : Hdr).fit := ⟨f.o1, f.o2, f.f0, f.f1⟩
    have fa : ({ h with ttl := ta } : Hdr).fit := ⟨f.o1, f.o2, f.f0, f.f1⟩
    have e0 := putP4_fit (body := abcL) f hn
    have eb := putP4_fit (h := { h with ttl := tb }) (body := abcL) fb hn
    obtain ⟨x1, -, -, x4⟩ := pkt_told f hid abcL [] hn
    obtain ⟨y1, -, -, y4⟩ := pkt_told (h := { h with ttl := ta }) fa hid abcL [] hn
    simp only [List.append_nil] at x1 x4 y1 y4
    have zz : ({ ({ h with ttl := ta } : Hdr) with ttl := tb } : Hdr) = { h with ttl := tb } := rfl
    have lX : ∀ t, (pktL ({ h with ttl := t } : Hdr) abcL).length = h.size + 3 := fun t => pktL_length _ _
    have lx : (pktL h abcL).length = h.size + 3 := pktL_length _ _
    have hs := size_le f
    have h20 : 20 ≤ h.size := by unfold Hdr.size; omega
    have HP0 := Lib.hid (fun a n cap W (i : IsB W (.slice a n cap) abcL) => put4_any h a n cap abcL W hid i (by decide))
    have HPb := Lib.hid (fun a n cap W (i : IsB W (.slice a n cap) abcL) => put4_any { h with ttl := tb } a n cap abcL W hid i (by decide))
    rw [e0.1, show abcL.length = 3 from rfl, hC] at HP0
    rw [eb.1, eb.2] at HPb
    have HTa := Lib.hid (fun a n cap W (i : IsB W (.slice a n cap) (pktL h abcL)) => ttl_any a n cap _ qa ta W hta i (by rw [lx]; omega))
    have HTb := Lib.hid (fun a n cap W (i : IsB W (.slice a n cap) (pktL h abcL)) => ttl_any a n cap _ qb tb W htb i (by rw [lx]; omega))
    have HTy := Lib.hid (fun a n cap W (i : IsB W (.slice a n cap) (pktL { h with ttl := ta } abcL)) => ttl_any a n cap _ qb tb W htb i (by rw [lX]; omega))
    rw [x1, x4] at HTa HTb
    rw [y1, y4, zz] at HTy
    have hset : h.cells.setIfInBounds 6 (.int .u8 qb) = ({ h with ttl := tb } : Hdr).cells := by rw [htb]; rfl
    have hc6 : h.cells[6]? = some (.int .u8 (h.ttl.toNat : Int)) := rfl
    have LB := Lib.hid (lX tb)
    have HSet := Lib.hid hset
    generalize pktL h abcL = X at *
    generalize pktL { h with ttl := ta } abcL = Y at *
    generalize pktL { h with ttl := tb } abcL = Z at *
    generalize hhb : ({ h with ttl := tb } : Hdr) = hb at *
    clear hta htb e0 eb x1 x4 y1 y4 zz lX lx fb fa f hC hset hhb
    go_enter Try.func8, Try.ntmps8
    go_wp2_with (go_at_call 9; refine HA.out.mono ?_; rintro e w1 ⟨rfl, b1⟩; refine Hid.out ?_)
    refine Lib.hid ?_
    obtain ⟨hg1, -⟩ := HC.out _ b1
    have HG1 := Lib.hid hg1
    have B1 := Lib.hid b1
    obtain ⟨wc, hcv, ic, bc⟩ := abc_conv w1
    have IC := Lib.hid ic
    have BC := Lib.hid bc
    clear b1 hg1 ic bc
    go_wp2_with (first | (refine wpList_load_hdr rfl (.tmp 3) rfl w.heap.size h rfl HG1.out ?_) | (go_at_call 14; refine (HP0.out _ _ _ _ IC.out).mono ?_; rintro e w2 ⟨⟨a2, n2, c2, rfl, i2⟩, b2⟩; refine Hid.out ?_))
    refine Lib.hid ?_
    have B2 := Lib.hid (below_up (below_up B1.out BC.out B1.out.size) b2 (below_up B1.out BC.out B1.out.size).size)
    have I2 := Lib.hid i2
    clear b2 i2 hcv BC IC HG1
    go_wp2_with (go_at_call 18; refine (HTa.out _ _ _ _ I2.out).mono ?_; rintro e w3 ⟨⟨a3, n3, c3, rfl, i3⟩, b3⟩; refine Hid.out ?_)
    refine Lib.hid ?_
    have B3 := Lib.hid (below_up B2.out b3 B2.out.size)
    have I3 := Lib.hid i3
    have I2' := Lib.hid (I2.out.below b3)
    clear b3 i3
    go_wp2_with (go_at_call 18; refine (HTy.out _ _ _ _ I3.out).mono ?_; rintro e w4 ⟨⟨a4, n4, c4, rfl, i4⟩, b4⟩; refine Hid.out ?_)
    refine Lib.hid ?_
    have B4 := Lib.hid (below_up B3.out b4 B3.out.size)
    have I4 := Lib.hid i4
    have I2'' := Lib.hid (I2'.out.below b4)
    clear b4 i4
    go_wp2_with (go_at_call 18; refine (HTb.out _ _ _ _ I2''.out).mono ?_; rintro e w5 ⟨⟨a5, n5, c5, rfl, i5⟩, b5⟩; refine Hid.out ?_)
    refine Lib.hid ?_
    have B5 := Lib.hid (below_up B4.out b5 B4.out.size)
    obtain ⟨hg5, e5⟩ := HC.out _ B5.out
    have c5' : w5.cell? ⟨w.heap.size, 6, none⟩ = some (.int .u8 (h.ttl.toNat : Int)) := (hdr_cell hg5 6).trans hc6
    have fz5 : w5.frozen? ⟨w.heap.size, 6, none⟩ = false := frozen_of_row w5 w.heap.size 6 _ _ hg5
    have hg6 := hdr_set hg5 6 _ HSet.out
    have l17 : h.cells.size < Z.length := by rw [LB.out]; show 17 < _; omega
    have i4' := ((isX_of_long (I4.out.below b5) hg5 l17).but (But.setCell w.heap.size 6 w5 (.int .u8 qb))).isB
    have i5' := ((isX_of_long i5 hg5 l17).but (But.setCell w.heap.size 6 w5 (.int .u8 qb))).isB
    have b6 := e5.setCell (p := ⟨w.heap.size, 6, none⟩) (Nat.le_refl _) (.int .u8 qb)
    have HG6 := Lib.hid hg6
    have I4' := Lib.hid i4'
    have I5' := Lib.hid i5'
    have B6 := Lib.hid b6
    obtain ⟨wd, hdv, id, bd⟩ := abc_conv (w5.setCell ⟨w.heap.size, 6, none⟩ (.int .u8 qb))
    have ID := Lib.hid id
    have BD := Lib.hid bd
    rw [World.size_setCell] at hdv ID
    clear b5 i5 hg5 e5 hg6 l17 i4' i5' b6 id bd I2 I2' I2'' I3 I4 B1 B2 B3 B4 hc6
    go_wp2_with (first | (refine wpList_load_hdr rfl (.tmp 3) rfl w.heap.size hb rfl HG6.out ?_) | (go_at_call 14; refine (HPb.out _ _ _ _ ID.out).mono ?_; rintro e w7 ⟨⟨a7, n7, c7, rfl, i7⟩, b7⟩; refine Hid.out ?_))
    refine Lib.hid ?_
    have g7 := below_up BD.out b7 BD.out.size
    have v4 := (I4'.out.below g7).conv (P := Try.prog) Try.underlying22 Try.underlying5 Try.underlying9
    have v5 := (I5'.out.below g7).conv (P := Try.prog) Try.underlying22 Try.underlying5 Try.underlying9
    have v7 := i7.conv (P := Try.prog) Try.underlying22 Try.underlying5 Try.underlying9
    have B7 := Lib.hid (below_up B6.out g7 B6.out.size)
    clear g7 b7 i7 hdv
    go_wp2
    go_ret
    exact ⟨rfl, B7.out⟩
  · have hp := hP abcL rfl
    have HP0 := Lib.hid (fun a n cap W (i : IsB W (.slice a n cap) abcL) => put4_any h a n cap abcL W hid i (by decide))
    rw [hp, show abcL.length = 3 from rfl] at HP0
    clear hP hp hta htb
    generalize putC4 h 3 = C at *
    go_enter Try.func8, Try.ntmps8
    go_wp2_with (go_at_call 9; refine HA.out.mono ?_; rintro e w1 ⟨rfl, b1⟩; refine Hid.out ?_)
    refine Lib.hid ?_
    obtain ⟨hg1, -⟩ := HC.out _ b1
    have HG1 := Lib.hid hg1
    have B1 := Lib.hid b1
    obtain ⟨wc, hcv, ic, bc⟩ := abc_conv w1
    have IC := Lib.hid ic
    have BC := Lib.hid bc
    clear b1 hg1 ic bc
    go_wp2_with (first | (refine wpList_load_hdr rfl (.tmp 3) rfl w.heap.size h rfl HG1.out ?_) | (go_at_call 14; refine (HP0.out _ _ _ _ IC.out).mono ?_; rintro e w2 ⟨⟨a2, n2, c2, rfl, i2⟩, b2⟩; refine Hid.out ?_))
    refine Lib.hid ?_
    obtain ⟨hq, -⟩ := i2.cells
    have hq2 : n2 = 0 := hq
    subst hq2
    have B2 := Lib.hid (HC.out _ (below_up (below_up B1.out BC.out B1.out.size) b2 (below_up B1.out BC.out B1.out.size).size)).2
    clear b2 i2 hcv hq
    go_wp2
    go_ret
    exact ⟨rfl, B2.out⟩
end Go.Proofs.Ytchkbdgoghcgcaa

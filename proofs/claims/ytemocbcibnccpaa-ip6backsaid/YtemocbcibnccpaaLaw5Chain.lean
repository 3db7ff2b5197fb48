/- Ip6Chain: the walk. -/
import Derived.Test.YtemocbcibnccpaaAw5
import Derived.Test.YtemocbcibnccpaaConv
namespace Go.Proofs.Ytemocbcibnccpaa
open Go Go.RowKit

theorem putC6_cases (h : Hdr6) (f : h.wide) (n : Nat) (hn : n ≤ 60000) : (putC6 h n = 0 ∧ h.fit) ∨ (putC6 h n = 1 ∧ ∀ body : List UInt8, body.length = n → putP6 h body = []) := by
  unfold putC6 putP6
  cases ho : h.okB
  · right
    simp
  · left
    rw [if_pos rfl, if_pos (by omega)]
    exact ⟨rfl, Hdr6.fit_of f ho⟩
theorem putP6_fit {h : Hdr6} {body : List UInt8} (f : h.fit) (hn : 40 + body.length ≤ 65535) : putP6 h body = put6 h body ∧ putC6 h body.length = 0 := by
  unfold putP6 putC6
  rw [f.ok]
  simp [hn]
theorem ttl6_row (h : Hdr6) (q : Int) (t : UInt8) (hq : q = (t.toNat : Int)) : h.row.set 4 (.int .u8 q) = ({ h with ttl := t } : Hdr6).row := by
  subst hq
  rfl

set_option maxRecDepth 100000 in
set_option maxHeartbeats 4000000 in
theorem chain6_walk (h : Hdr6) (qa qb : Int) (w : World) (f : h.wide) (ha0 : 0 ≤ qa) (ha1 : qa ≤ 255) (hb0 : 0 ≤ qb) (hb1 : qb ≤ 255) :
    Calls Try.prog 6 #[h.val, .int .u8 qa, .int .u8 qb] w fun e w' => e = .returned (.bool true) ∧ Below w.heap.size w w' := by
  obtain ⟨ta, hta⟩ : ∃ t : UInt8, qa = (t.toNat : Int) := ⟨UInt8.ofNat qa.toNat, by rw [UInt8.toNat_ofNat_of_lt' (show qa.toNat < 256 by omega)]; omega⟩
  obtain ⟨tb, htb⟩ : ∃ t : UInt8, qb = (t.toNat : Int) := ⟨UInt8.ofNat qb.toNat, by rw [UInt8.toNat_ofNat_of_lt' (show qb.toNat < 256 by omega)]; omega⟩
  have b0 : Below w.heap.size w (w.alloc (.cells h.cells 26)) := (Below.refl _ _).alloc (Nat.le_refl _) _
  have hg0 := heap_alloc_new w (.cells h.cells 26)
  have HA := Lib.hid (awake5_any (w.alloc (.cells h.cells 26)))
  have HC : Hid (∀ W, Below (w.alloc (.cells h.cells 26)).heap.size (w.alloc (.cells h.cells 26)) W → W.heap[w.heap.size]? = some (.cells h.cells 26 (0, 0)) ∧ Below w.heap.size w W) := by
    intro W hb
    exact ⟨(hb.block w.heap.size (by simp)).trans hg0, below_up b0 hb b0.size⟩
  rw [show h.val = .agg h.cells from rfl]
  clear b0 hg0
  have HF := Lib.hid f
  rcases putC6_cases h f 3 (by omega) with ⟨hC, g⟩ | ⟨hC, hP⟩
  · have ga : ({ h with ttl := ta } : Hdr6).fit := ⟨g.f0, g.f1, g.s, g.d⟩
    have gb : ({ h with ttl := tb } : Hdr6).fit := ⟨g.f0, g.f1, g.s, g.d⟩
    have hn3 : 40 + abcL.length ≤ 65535 := by decide
    have e0 := putP6_fit (body := abcL) g hn3
    have eb := putP6_fit (h := { h with ttl := tb }) (body := abcL) gb hn3
    obtain ⟨x1, -, -, x4⟩ := pkt6_told g abcL [] (by decide)
    obtain ⟨y1, -, -, y4⟩ := pkt6_told (h := { h with ttl := ta }) ga abcL [] (by decide)
    simp only [List.append_nil] at x1 x4 y1 y4
    have zz : ({ ({ h with ttl := ta } : Hdr6) with ttl := tb } : Hdr6) = { h with ttl := tb } := rfl
    have lx : (put6 h abcL).length = 43 := put6_length g abcL
    have ly : (put6 ({ h with ttl := ta } : Hdr6) abcL).length = 43 := put6_length ga abcL
    have lz : (put6 ({ h with ttl := tb } : Hdr6) abcL).length = 43 := put6_length gb abcL
    have HP0 := Lib.hid (fun a n cap W (i : IsB W (.slice a n cap) abcL) => put6_any h f a n cap abcL W i (by decide))
    have HPb := Lib.hid (fun a n cap W (i : IsB W (.slice a n cap) abcL) => put6_any { h with ttl := tb } gb.wide a n cap abcL W i (by decide))
    rw [e0.1, e0.2] at HP0
    rw [eb.1, eb.2] at HPb
    have HTa := Lib.hid (fun a n cap W (i : IsB W (.slice a n cap) (put6 h abcL)) => ttl6_any a n cap _ qa ta W hta i (by rw [lx]; omega))
    have HTy := Lib.hid (fun a n cap W (i : IsB W (.slice a n cap) (put6 { h with ttl := ta } abcL)) => ttl6_any a n cap _ qb tb W htb i (by rw [ly]; omega))
    rw [x1, x4] at HTa
    rw [y1, y4, zz] at HTy
    have HSet := Lib.hid (ttl6_row h qb tb htb)
    have HWb := Lib.hid gb.wide
    have hc4 : h.row[4]? = some (.int .u8 (h.ttl.toNat : Int)) := rfl
    have LX := Lib.hid lx
    have LY := Lib.hid ly
    have LZ := Lib.hid lz
    have H37 := Lib.hid (hdr6_size f)
    generalize put6 h abcL = X at *
    generalize put6 { h with ttl := ta } abcL = Y at *
    generalize put6 { h with ttl := tb } abcL = Z at *
    generalize hhb : ({ h with ttl := tb } : Hdr6) = hb at *
    clear hta htb e0 eb x1 x4 y1 y4 zz lx ly lz ga gb g hC hhb f hn3
    go_enter Try.func6, Try.ntmps6
    go_wp2_with (go_at_call 7; refine HA.out.mono ?_; rintro e w1 ⟨rfl, b1⟩; refine Hid.out ?_)
    refine Lib.hid ?_
    obtain ⟨hg1, -⟩ := HC.out _ b1
    have HG1 := Lib.hid hg1
    have B1 := Lib.hid b1
    obtain ⟨wc, hcv, ic, bc⟩ := abc_conv w1
    have IC := Lib.hid ic
    have BC := Lib.hid bc
    clear b1 hg1 ic bc
    go_wp2_with (first | (refine wpList_load_hdr6 rfl (.tmp 3) rfl w.heap.size h HF.out rfl HG1.out ?_) | (go_at_call 12; refine (HP0.out _ _ _ _ IC.out).mono ?_; rintro e w2 ⟨⟨a2, n2, c2, rfl, i2⟩, b2⟩; refine Hid.out ?_))
    refine Lib.hid ?_
    have B2 := Lib.hid (below_up (below_up B1.out BC.out B1.out.size) b2 (below_up B1.out BC.out B1.out.size).size)
    have I2 := Lib.hid i2
    obtain ⟨hn2, -⟩ := i2.cells
    rw [LX.out] at hn2
    subst hn2
    clear b2 i2 hcv BC IC HG1
    go_wp2_with (go_at_call 14; refine (HTa.out _ _ _ _ I2.out).mono ?_; rintro e w3 ⟨⟨a3, n3, c3, rfl, i3⟩, b3⟩; refine Hid.out ?_)
    refine Lib.hid ?_
    have B3 := Lib.hid (below_up B2.out b3 B2.out.size)
    have I3 := Lib.hid i3
    obtain ⟨hn3, -⟩ := i3.cells
    rw [LY.out] at hn3
    subst hn3
    clear b3 i3
    go_wp2_with (go_at_call 14; refine (HTy.out _ _ _ _ I3.out).mono ?_; rintro e w4 ⟨⟨a4, n4, c4, rfl, i4⟩, b4⟩; refine Hid.out ?_)
    refine Lib.hid ?_
    have B4 := Lib.hid (below_up B3.out b4 B3.out.size)
    obtain ⟨hg5, e5⟩ := HC.out _ B4.out
    have c5' : w4.cell? ⟨w.heap.size, 4, none⟩ = some (.int .u8 (h.ttl.toNat : Int)) := (hdr6_cell hg5 4).trans hc4
    have fz5 : w4.frozen? ⟨w.heap.size, 4, none⟩ = false := frozen_of_row w4 w.heap.size 4 _ _ hg5
    have hg6 := hdr6_set hg5 4 _ HSet.out
    have l37 : h.cells.size < Z.length := by rw [LZ.out, H37.out]; omega
    have i4' := ((isX_of_long i4 hg5 l37).but (But.setCell w.heap.size 4 w4 (.int .u8 qb))).isB
    have b6 := e5.setCell (p := ⟨w.heap.size, 4, none⟩) (Nat.le_refl _) (.int .u8 qb)
    have HG6 := Lib.hid hg6
    have I4' := Lib.hid i4'
    have B6 := Lib.hid b6
    obtain ⟨wd, hdv, id, bd⟩ := abc_conv (w4.setCell ⟨w.heap.size, 4, none⟩ (.int .u8 qb))
    have ID := Lib.hid id
    have BD := Lib.hid bd
    rw [World.size_setCell] at hdv ID
    clear b4 i4 hg5 e5 hg6 l37 i4' b6 id bd I2 I3 B1 B2 B3 B4 hc4
    go_wp2_with (first | (refine wpList_load_hdr6 rfl (.tmp 3) rfl w.heap.size hb HWb.out rfl HG6.out ?_) | (go_at_call 12; refine (HPb.out _ _ _ _ ID.out).mono ?_; rintro e w7 ⟨⟨a7, n7, c7, rfl, i7⟩, b7⟩; refine Hid.out ?_))
    refine Lib.hid ?_
    have g7 := below_up BD.out b7 BD.out.size
    have v4 := (I4'.out.below g7).conv (P := Try.prog) Try.underlying22 Try.underlying5 Try.underlying9
    have v7 := i7.conv (P := Try.prog) Try.underlying22 Try.underlying5 Try.underlying9
    have B7 := Lib.hid (below_up B6.out g7 B6.out.size)
    clear g7 b7 i7 hdv
    go_wp2
    go_ret
    exact ⟨rfl, B7.out⟩
  · have hp := hP abcL rfl
    have HP0 := Lib.hid (fun a n cap W (i : IsB W (.slice a n cap) abcL) => put6_any h f a n cap abcL W i (by decide))
    rw [hp, show abcL.length = 3 from rfl, hC] at HP0
    clear hP hp hta htb f
    go_enter Try.func6, Try.ntmps6
    go_wp2_with (go_at_call 7; refine HA.out.mono ?_; rintro e w1 ⟨rfl, b1⟩; refine Hid.out ?_)
    refine Lib.hid ?_
    obtain ⟨hg1, -⟩ := HC.out _ b1
    have HG1 := Lib.hid hg1
    have B1 := Lib.hid b1
    obtain ⟨wc, hcv, ic, bc⟩ := abc_conv w1
    have IC := Lib.hid ic
    have BC := Lib.hid bc
    clear b1 hg1 ic bc
    go_wp2_with (first | (refine wpList_load_hdr6 rfl (.tmp 3) rfl w.heap.size h HF.out rfl HG1.out ?_) | (go_at_call 12; refine (HP0.out _ _ _ _ IC.out).mono ?_; rintro e w2 ⟨⟨a2, n2, c2, rfl, i2⟩, b2⟩; refine Hid.out ?_))
    refine Lib.hid ?_
    obtain ⟨hq, -⟩ := i2.cells
    have hq2 : n2 = 0 := hq
    subst hq2
    have B2 := Lib.hid (HC.out _ (below_up (below_up B1.out BC.out B1.out.size) b2 (below_up B1.out BC.out B1.out.size).size)).2
    clear b2 i2 hcv hq
    go_wp2
    go_ret
    exact ⟨rfl, B2.out⟩
end Go.Proofs.Ytemocbcibnccpaa

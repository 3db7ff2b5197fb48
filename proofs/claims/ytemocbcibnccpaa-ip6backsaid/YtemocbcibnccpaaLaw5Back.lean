/- Ip6Back: the walk. -/
import Derived.Test.YtemocbcibnccpaaLaw5Chain
namespace Go.Proofs.Ytemocbcibnccpaa
open Go Go.RowKit

theorem ttl6_up (t : UInt8) : (((t.toNat : Int) + 1) % 256) = ((t + 1).toNat : Int) := by
  rw [UInt8.toNat_add]
  have := UInt8.toNat_lt t
  show _ = (((t.toNat + 1) % 256 : Nat) : Int)
  omega
theorem short6 (l : List UInt8) (h : 40 ≤ l.length) : ip6C (l.take 39) = 10 ∧ ip6H (l.take 39) = hdrZero6 := by
  have e : ip6C (l.take 39) = 10 := by
    unfold ip6C
    rw [if_pos (by rw [List.length_take]; omega)]
  exact ⟨e, by unfold ip6H; rw [e]; rfl⟩

set_option maxRecDepth 100000 in
set_option maxHeartbeats 8000000 in
theorem back6_walk (h : Hdr6) (a1 : Option Addr) (n1 c1 : Nat) (l1 : List UInt8) (a2 : Option Addr) (n2 c2 : Nat) (l2 : List UInt8) (w : World) (f : h.wide) (f1 : IsB w (.slice a1 n1 c1) l1) (f2 : IsB w (.slice a2 n2 c2) l2) :
    Calls Try.prog 5 #[h.val, .slice a1 n1 c1, .slice a2 n2 c2] w fun e w' => e = .returned (.bool true) ∧ Below w.heap.size w w' := by
  obtain ⟨rfl, z1, m1, -⟩ := f1.cells
  obtain ⟨rfl, z2, m2, -⟩ := f2.cells
  have b0 : Below w.heap.size w (w.alloc (.cells h.cells 26)) := (Below.refl _ _).alloc (Nat.le_refl _) _
  have hg0 := heap_alloc_new w (.cells h.cells 26)
  have HA := Lib.hid (awake5_any (w.alloc (.cells h.cells 26)))
  have HC : Hid (∀ W, Below (w.alloc (.cells h.cells 26)).heap.size (w.alloc (.cells h.cells 26)) W → W.heap[w.heap.size]? = some (.cells h.cells 26 (0, 0)) ∧ Below w.heap.size w W) := by
    intro W hb
    exact ⟨(hb.block w.heap.size (by simp)).trans hg0, below_up b0 hb b0.size⟩
  have F1 := Lib.hid f1
  have F2 := Lib.hid f2
  have HF := Lib.hid f
  rw [show h.val = .agg h.cells from rfl]
  unfold maxLen at m1 m2
  clear f1 f2 b0 hg0
  by_cases hbig : 1000 < l1.length ∨ 100 < l2.length
  · have hb2 : 1000 < (l1.length : Int) ∨ (¬ 1000 < (l1.length : Int) ∧ 100 < (l2.length : Int)) := by omega
    clear hbig
    rcases hb2 with hb2 | ⟨hb3, hb2⟩
    all_goals
      go_enter Try.func5, Try.ntmps5
      go_wp2_with (go_at_call 7; refine HA.out.mono ?_; rintro e w1 ⟨rfl, b1⟩; refine Hid.out ?_)
      refine Lib.hid ?_
      obtain ⟨-, e1⟩ := HC.out _ b1
      have E1 := Lib.hid e1
      clear e1 b1
      go_wp2
      go_ret
      exact ⟨rfl, E1.out⟩
  have hl1 : l1.length ≤ 1000 := by omega
  have hl2 : l2.length ≤ 100 := by omega
  have hl1' : (l1.length : Int) ≤ 1000 := by omega
  have hl2' : (l2.length : Int) ≤ 100 := by omega
  clear hbig
  rcases putC6_cases h f l1.length (by omega) with ⟨hC, g⟩ | ⟨hC, hP⟩
  · have hn : 40 + l1.length ≤ 65535 := by omega
    have HP := Lib.hid (fun W (i : IsB W (.slice a1 l1.length c1) l1) => put6_own h a1 l1.length c1 l1 W g i hn)
    have gt : ({ h with ttl := h.ttl + 1 } : Hdr6).fit := ⟨g.f0, g.f1, g.s, g.d⟩
    obtain ⟨x1, x2, x3, x4⟩ := pkt6_told g l1 l2 (by omega)
    obtain ⟨y1, y2, y3, -⟩ := pkt6_told (h := { h with ttl := h.ttl + 1 }) gt l1 l2 (by omega)
    have lx : (put6 h l1).length = 40 + l1.length := put6_length g l1
    have lxx : (put6 h l1 ++ l2).length = 40 + l1.length + l2.length := by rw [List.length_append, lx]
    have lyy : (put6 { h with ttl := h.ttl + 1 } l1 ++ l2).length = 40 + l1.length + l2.length := by rw [List.length_append, put6_length gt]
    obtain ⟨s1, s2⟩ := short6 (put6 h l1) (by omega)
    have HPs := Lib.hid (fun a n cap W (i : IsB W (.slice a n cap) ((put6 h l1).take 39)) => parse6_any a n cap _ W i (by rw [List.length_take]; omega))
    have HPx := Lib.hid (fun a n cap W (i : IsB W (.slice a n cap) (put6 h l1 ++ l2)) => parse6_any a n cap _ W i (by rw [lxx]; omega))
    have HPy := Lib.hid (fun a n cap W (i : IsB W (.slice a n cap) (put6 { h with ttl := h.ttl + 1 } l1 ++ l2)) => parse6_any a n cap _ W i (by rw [lyy]; omega))
    have HBx := Lib.hid (fun a n cap W (i : IsB W (.slice a n cap) (put6 h l1 ++ l2)) => body6_any a n cap _ W i (by rw [lxx]; omega))
    have HBy := Lib.hid (fun a n cap W (i : IsB W (.slice a n cap) (put6 { h with ttl := h.ttl + 1 } l1 ++ l2)) => body6_any a n cap _ W i (by rw [lyy]; omega))
    have HTx := Lib.hid (fun a n cap W (i : IsB W (.slice a n cap) (put6 h l1 ++ l2)) => ttl6_any a n cap _ _ (h.ttl + 1) W (ttl6_up h.ttl) i (by rw [lxx]; omega))
    obtain ⟨H1, eH1⟩ : ∃ H1 : Hdr6, H1 = { h with len := (l1.length : Int) } := ⟨_, rfl⟩
    obtain ⟨H2, eH2⟩ : ∃ H2 : Hdr6, H2 = { ({ h with ttl := h.ttl + 1 } : Hdr6) with len := (l1.length : Int) } := ⟨_, rfl⟩
    have W1 : H1.wide := by rw [eH1]; exact ⟨g.s, g.d⟩
    have W2 : H2.wide := by rw [eH2]; exact ⟨g.s, g.d⟩
    have HW1 := Lib.hid W1
    have HW2 := Lib.hid W2
    rw [← eH1] at x2
    rw [← eH2] at y2
    rw [s1, s2] at HPs
    rw [x1, x2] at HPx
    rw [y1, y2] at HPy
    rw [x3] at HBx
    rw [y3] at HBy
    rw [x1, x4] at HTx
    have HS2 : Hid (h.row.set 2 (.int .i64 (l1.length : Int)) = H1.row) := by
      show h.row.set 2 (.int .i64 (l1.length : Int)) = H1.row
      rw [eH1]; rfl
    have HS4 : Hid (H1.row.set 4 (.int .u8 (((h.ttl.toNat : Int) + 1) % 256)) = H2.row) := by
      show H1.row.set 4 (.int .u8 (((h.ttl.toNat : Int) + 1) % 256)) = H2.row
      rw [ttl6_up, eH1, eH2]; rfl
    have HCl : Hid (H1.row[4]? = some (.int .u8 (h.ttl.toNat : Int))) := by
      show H1.row[4]? = some (.int .u8 (h.ttl.toNat : Int))
      rw [eH1]; rfl
    have hc2 : h.row[2]? = some (.int .i64 h.len) := rfl
    rw [lx] at HP
    have HLx := Lib.hid lx
    have HLxx := Lib.hid lxx
    have HLyy := Lib.hid lyy
    have ht0 : 0 ≤ (h.ttl.toNat : Int) := by omega
    have ht1 : (h.ttl.toNat : Int) ≤ 255 := by have := UInt8.toNat_lt h.ttl; omega
    clear hC g gt x1 x2 x3 x4 y1 y2 y3 lx lxx lyy eH1 eH2 W1 W2 s1 s2 f hn
    generalize put6 { h with ttl := h.ttl + 1 } l1 ++ l2 = YL at *
    generalize hX : put6 h l1 = X at *
    generalize hXL : X ++ l2 = XL at *
    generalize (h.ttl.toNat : Int) = tt at *
    have HXL := Lib.hid hXL
    clear hX hXL
    go_enter Try.func5, Try.ntmps5
    go_wp2_with (go_at_call 7; refine HA.out.mono ?_; rintro e w1 ⟨rfl, b1⟩; refine Hid.out ?_)
    refine Lib.hid ?_
    obtain ⟨hg1, e1⟩ := HC.out _ b1
    have HG1 := Lib.hid hg1
    have B1 := Lib.hid b1
    have I1 := Lib.hid (F1.out.below e1)
    have E1 := Lib.hid e1
    have hbl := (Array.getElem?_eq_some_iff.1 hg1).1
    clear b1 hg1 e1
    go_wp2_with (first | (refine wpList_load_hdr6 rfl (.tmp 3) rfl w.heap.size h HF.out rfl HG1.out ?_) | (go_at_call 12; refine (HP.out _ I1.out).mono ?_; rintro e w2 ⟨⟨v2, rfl, o2⟩, b2⟩; refine Hid.out ?_))
    refine Lib.hid ?_
    obtain ⟨g2, cg, rfl, hgl, hgs⟩ := own_form o2 (by omega)
    have B2 := Lib.hid (below_up B1.out b2 B1.out.size)
    obtain ⟨hg2, e2⟩ := HC.out _ B2.out
    have cc2 : w2.cell? ⟨w.heap.size, 2, none⟩ = some (.int .i64 h.len) := (hdr6_cell hg2 2).trans hc2
    have fz2 : w2.frozen? ⟨w.heap.size, 2, none⟩ = false := frozen_of_row w2 w.heap.size 2 _ _ hg2
    have hg3 := hdr6_set hg2 2 _ HS2.out
    have o3 : (w2.setCell ⟨w.heap.size, 2, none⟩ (.int .i64 (l1.length : Int))).ownsRow w1.heap.size 5 1 (.slice (some ⟨g2, 0, none⟩) (40 + l1.length) cg) (40 + l1.length) (byteVals X) := own_other o2 (fun k _ hk => Below.heap_setCell _ _ _ _ (by show k ≠ w.heap.size; omega))
    have e3 := e2.setCell (p := ⟨w.heap.size, 2, none⟩) (Nat.le_refl _) (.int .i64 (l1.length : Int))
    have hs3 : w1.heap.size ≤ (w2.setCell ⟨w.heap.size, 2, none⟩ (.int .i64 (l1.length : Int))).heap.size := by rw [World.size_setCell]; exact b2.size
    have i3 := IsB.of_owned o3
    have hcg : 40 + l1.length ≤ cg := by have := i3.cells.2.1; rw [HLx.out] at this; exact this
    have hcg39 : (39 : Int) ≤ (cg : Int) := by omega
    have i39 := i3.head (k := 39) (by rw [HLx.out]; omega)
    have I39 := Lib.hid i39
    have O3 := Lib.hid o3
    have HG3 := Lib.hid hg3
    have E3 := Lib.hid e3
    have HSz3 := Lib.hid hs3
    clear b2 hg2 o2 o3 hg3 e3 e2 hs3 HG1 hc2 i3 i39 hcg
    go_wp2_with (go_at_call 8; refine (HPs.out _ _ _ _ I39.out).mono ?_; rintro e w3 ⟨rfl, b3⟩; refine Hid.out ?_)
    refine Lib.hid ?_
    have b3a := b3.alloc b3.size (.cells hdrZero6.cells 26)
    have o4 : (w3.alloc (.cells hdrZero6.cells 26)).ownsRow w1.heap.size 5 1 (.slice (some ⟨g2, 0, none⟩) (40 + l1.length) cg) (40 + l1.length) (byteVals X) := own_other O3.out (fun k hk _ => b3a.block k hk)
    have hg4 := (b3a.block w.heap.size (Array.getElem?_eq_some_iff.1 HG3.out).1).trans HG3.out
    have e4 := below_up E3.out b3a E3.out.size
    have hs4 : w1.heap.size ≤ (w3.alloc (.cells hdrZero6.cells 26)).heap.size := Nat.le_trans HSz3.out b3a.size
    have O4 := Lib.hid o4
    have HG4 := Lib.hid hg4
    have E4 := Lib.hid e4
    have HSz4 := Lib.hid hs4
    have I4 := Lib.hid (F2.out.below e4)
    clear b3 b3a o4 hg4 e4 hs4 O3 HG3 E3 HSz3 I39 I1 hgl hgs cc2 fz2
    go_wp2_with (first | (refine wpList_store_new6 rfl (.tmp 11) (.tmp 54) rfl hdrZero6 zero6_wide _ rfl rfl rfl ?_) | (at_builtin; refine append_bytes rfl (.tmp 56) (.tmp 57) rfl w1.heap.size _ (40 + l1.length) X rfl O4.out a2 l2.length c2 l2 rfl I4.out (by omega) HSz4.out ?_; intro v4 w4 o5 g4; refine Hid.out ?_))
    refine Lib.hid ?_
    have hlow := owned_low O4.out
    have b34 := (Below.refl w1.heap.size (w3.alloc (.cells hdrZero6.cells 26))).grown g4 HSz4.out hlow
    have hg4 := (b34.block w.heap.size hbl).trans HG4.out
    have e4 := E4.out.grown g4 (Nat.le_trans E1.out.size HSz4.out) (fun k hk => Nat.le_trans E1.out.size (hlow k hk))
    rw [HXL.out] at o5
    obtain ⟨a4, n4, c4, rfl, i4⟩ := owned_shape o5
    obtain ⟨hn4, -⟩ := i4.cells
    have hn4' : n4 = 40 + l1.length + l2.length := hn4.trans HLxx.out
    subst hn4'
    have HG5 := Lib.hid hg4
    have E5 := Lib.hid e4
    have I5 := Lib.hid i4
    clear hlow b34 hg4 e4 o5 g4 i4 hn4 O4 HG4 E4 HSz4 I4
    go_wp2_with (go_at_call 8; refine (HPx.out _ _ _ _ I5.out).mono ?_; rintro e w5 ⟨rfl, b5⟩; refine Hid.out ?_)
    refine Lib.hid ?_
    have b45 := b5.alloc b5.size (.cells H1.cells 26)
    have hg6 := (b45.block w.heap.size (Array.getElem?_eq_some_iff.1 HG5.out).1).trans HG5.out
    have hp6 := heap_alloc_new w5 (.cells H1.cells 26)
    have cc6 : (w5.alloc (.cells H1.cells 26)).cell? ⟨w.heap.size, 4, none⟩ = some (.int .u8 tt) := (hdr6_cell hg6 4).trans HCl.out
    have I6 := Lib.hid (I5.out.below b45)
    have E6 := Lib.hid (below_up E5.out b45 E5.out.size)
    have HG6 := Lib.hid hg6
    have HP6 := Lib.hid hp6
    clear b5 b45 hg6 hp6 HG5 E5 I5
    go_wp2_with (first | (refine wpList_store_new6 rfl (.tmp 13) (.tmp 62) rfl H1 HW1.out _ rfl rfl rfl ?_) | (go_at_call 14; refine (HTx.out _ _ _ _ I6.out).mono ?_; rintro e w7 ⟨⟨a7, n7, c7, rfl, i7⟩, b7⟩; refine Hid.out ?_))
    refine Lib.hid ?_
    obtain ⟨hn7, -⟩ := i7.cells
    have hn7' : n7 = 40 + l1.length + l2.length := hn7.trans HLyy.out
    subst hn7'
    have I7 := Lib.hid i7
    have J7 := Lib.hid (I6.out.below b7)
    have E7 := Lib.hid (below_up E6.out b7 E6.out.size)
    have HG7 := Lib.hid ((b7.block w.heap.size (Array.getElem?_eq_some_iff.1 HG6.out).1).trans HG6.out)
    have HP7 := Lib.hid ((b7.block w5.heap.size (Array.getElem?_eq_some_iff.1 HP6.out).1).trans HP6.out)
    clear i7 b7 hn7 cc6 I6 E6 HG6 HP6
    go_wp2_with (go_at_call 8; refine (HPy.out _ _ _ _ I7.out).mono ?_; rintro e w8 ⟨rfl, b8⟩; refine Hid.out ?_)
    refine Lib.hid ?_
    have b89 := b8.alloc b8.size (.cells H2.cells 26)
    have hg9 := (b89.block w.heap.size (Array.getElem?_eq_some_iff.1 HG7.out).1).trans HG7.out
    have hp9 := (b89.block w5.heap.size (Array.getElem?_eq_some_iff.1 HP7.out).1).trans HP7.out
    have hq9 := heap_alloc_new w8 (.cells H2.cells 26)
    have i9 := I7.out.below b89
    have j9 := J7.out.below b89
    have e9 := below_up E7.out b89 E7.out.size
    have hne9 : w8.heap.size ≠ w.heap.size := by have h1 := (Array.getElem?_eq_some_iff.1 HG7.out).1; have h2 := b8.size; omega
    clear b8 b89 I7 J7 E7 HG7 HP7
    go_wp2_with (refine wpList_store_new6 rfl (.tmp 17) (.tmp 75) rfl H2 HW2.out _ rfl rfl rfl ?_)
    generalize (w8.alloc (.cells H2.cells 26)) = w9 at *
    have HSt : Hid (∀ W, Below w9.heap.size w9 W → Below w9.heap.size w9 W ∧ W.heap[w.heap.size]? = some (.cells H1.cells 26 (0, 0)) ∧ W.heap[w5.heap.size]? = some (.cells H1.cells 26 (0, 0)) ∧ (convert 22 9 (.slice a1 l1.length c1)).run Try.prog W = .ok (.string ⟨l1.toArray⟩) W) := by
      intro W hb
      exact ⟨hb, (hb.block _ (Array.getElem?_eq_some_iff.1 hg9).1).trans hg9, (hb.block _ (Array.getElem?_eq_some_iff.1 hp9).1).trans hp9, (F1.out.below (below_up e9 hb e9.size)).conv Try.underlying22 Try.underlying5 Try.underlying9⟩
    have I9 := Lib.hid i9
    have J9 := Lib.hid j9
    have E9 := Lib.hid e9
    have HG9 := Lib.hid hg9
    have HQ9 := Lib.hid hq9
    have HNE := Lib.hid hne9
    clear i9 j9 e9 hg9 hp9 hq9 hne9
    refine wp_region_noPanic ?_
    refine wp_region_held_drew (S := fun W => Below w9.heap.size w9 W ∧ W.heap[w.heap.size]? = some (.cells H1.cells 26 (0, 0)) ∧ W.heap[w5.heap.size]? = some (.cells H1.cells 26 (0, 0)) ∧ (convert 22 9 (.slice a1 l1.length c1)).run Try.prog W = .ok (.string ⟨l1.toArray⟩) W) (by kernel_rfl) (HSt.out _ (Below.refl _ _).drew) (fun hHeld => ?_)
    refine held_take (v := H1.val) 0 rfl (by kernel_rfl) (by kernel_rfl) (by kernel_rfl) (fun _ _ _ h => h) (by rfl) (fun W hSw => exec_load_hdr6 (.tmp 13) rfl w5.heap.size H1 HW1.out rfl hSw.2.2.1) (by assumption) ?_
    simp only [List.setIfInBounds_toArray, List.set_cons_zero, List.set_cons_succ]
    refine held_take (v := H1.val) 1 rfl (by kernel_rfl) (by kernel_rfl) (by kernel_rfl) (fun _ _ _ h => h) (by rfl) (fun W hSw => exec_load_hdr6 (.tmp 3) rfl w.heap.size H1 HW1.out rfl hSw.2.1) (by assumption) ?_
    simp only [List.setIfInBounds_toArray, List.set_cons_zero, List.set_cons_succ]
    refine held_take (v := .bool false) 2 rfl (by kernel_rfl) (by kernel_rfl) (by kernel_rfl) (fun _ _ _ h => h) (by rfl) (fun W _ => exec_neq_hdr6 77 78 _ rfl H1 HW1.out rfl rfl) (by assumption) ?_
    simp only [List.setIfInBounds_toArray, List.set_cons_zero, List.set_cons_succ]
    refine held_take (v := ?v218) 3 rfl (by kernel_rfl) (by kernel_rfl) (by kernel_rfl) (fun _ _ _ h => h) (by rfl) ?y218 (by assumption) ?_
    case y218 => (intro w hSw; (try dsimp only at hSw); go_simp; (try with_reducible rfl); (try omega))
    simp only [List.setIfInBounds_toArray, List.set_cons_zero, List.set_cons_succ]
    refine held_take (v := ?v221) 4 rfl (by kernel_rfl) (by kernel_rfl) (by kernel_rfl) (fun _ _ _ h => h) (by rfl) ?y221 (by assumption) ?_
    case y221 => (intro w hSw; (try dsimp only at hSw); go_simp; (try with_reducible rfl); (try omega))
    simp only [List.setIfInBounds_toArray, List.set_cons_zero, List.set_cons_succ]
    refine held_take (v := ?v224) 5 rfl (by kernel_rfl) (by kernel_rfl) (by kernel_rfl) (fun _ _ _ h => h) (by rfl) ?y224 (by assumption) ?_
    case y224 => (intro w hSw; (try dsimp only at hSw); go_simp; (try with_reducible rfl); (try omega))
    simp only [List.setIfInBounds_toArray, List.set_cons_zero, List.set_cons_succ]
    refine held_take (v := ?v227) 6 rfl (by kernel_rfl) (by kernel_rfl) (by kernel_rfl) (fun _ _ _ h => h) (by rfl) ?y227 (by assumption) ?_
    case y227 => (intro w hSw; (try dsimp only at hSw); go_simp; (try with_reducible rfl); (try omega))
    simp only [List.setIfInBounds_toArray, List.set_cons_zero, List.set_cons_succ]
    refine held_take (v := ?v230) 7 rfl (by kernel_rfl) (by kernel_rfl) (by kernel_rfl) (fun _ _ _ h => h) (by rfl) ?y230 (by assumption) ?_
    case y230 => (intro w hSw; (try dsimp only at hSw); go_simp; (try with_reducible rfl); (try omega))
    simp only [List.setIfInBounds_toArray, List.set_cons_zero, List.set_cons_succ]
    refine held_take (v := ?v233) 8 rfl (by kernel_rfl) (by kernel_rfl) (by kernel_rfl) (fun _ _ _ h => h) (by rfl) ?y233 (by assumption) ?_
    case y233 => (intro w hSw; (try dsimp only at hSw); go_simp; (try with_reducible rfl); (try omega))
    simp only [List.setIfInBounds_toArray, List.set_cons_zero, List.set_cons_succ]
    refine held_take (v := ?v236) 9 rfl (by kernel_rfl) (by kernel_rfl) (by kernel_rfl) (fun _ _ _ h => h) (by rfl) ?y236 (by assumption) ?_
    case y236 => (intro w hSw; (try dsimp only at hSw); go_simp; (try with_reducible rfl); (try omega))
    simp only [List.setIfInBounds_toArray, List.set_cons_zero, List.set_cons_succ]
    refine held_take (v := ?v239) 10 rfl (by kernel_rfl) (by kernel_rfl) (by kernel_rfl) (fun _ _ _ h => h) (by rfl) ?y239 (by assumption) ?_
    case y239 => (intro w hSw; (try dsimp only at hSw); go_simp; (try with_reducible rfl); (try omega))
    simp only [List.setIfInBounds_toArray, List.set_cons_zero, List.set_cons_succ]
    refine held_take (v := ?v242) 11 rfl (by kernel_rfl) (by kernel_rfl) (by kernel_rfl) (fun _ _ _ h => h) (by rfl) ?y242 (by assumption) ?_
    case y242 => (intro w hSw; (try dsimp only at hSw); go_simp; (try with_reducible rfl); (try omega))
    simp only [List.setIfInBounds_toArray, List.set_cons_zero, List.set_cons_succ]
    refine held_take (v := ?v245) 12 rfl (by kernel_rfl) (by kernel_rfl) (by kernel_rfl) (fun _ _ _ h => h) (by rfl) ?y245 (by assumption) ?_
    case y245 => (intro w hSw; (try dsimp only at hSw); go_simp; (try with_reducible rfl); (try omega))
    simp only [List.setIfInBounds_toArray, List.set_cons_zero, List.set_cons_succ]
    refine held_take (v := ?v248) 13 rfl (by kernel_rfl) (by kernel_rfl) (by kernel_rfl) (fun _ _ _ h => h) (by rfl) ?y248 (by assumption) ?_
    case y248 => (intro w hSw; (try dsimp only at hSw); go_simp; (try with_reducible rfl); (try omega))
    simp only [List.setIfInBounds_toArray, List.set_cons_zero, List.set_cons_succ]
    refine held_take (v := ?v251) 14 rfl (by kernel_rfl) (by kernel_rfl) (by kernel_rfl) (fun _ _ _ h => h) (by rfl) ?y251 (by assumption) ?_
    case y251 => (intro w hSw; (try dsimp only at hSw); go_simp; (try with_reducible rfl); (try omega))
    simp only [List.setIfInBounds_toArray, List.set_cons_zero, List.set_cons_succ]
    refine held_take (v := ?v254) 15 rfl (by kernel_rfl) (by kernel_rfl) (by kernel_rfl) (fun _ _ _ h => h) (by rfl) ?y254 (by assumption) ?_
    case y254 => (intro w hSw; (try dsimp only at hSw); go_simp; (try with_reducible rfl); (try omega))
    simp only [List.setIfInBounds_toArray, List.set_cons_zero, List.set_cons_succ]
    refine held_take (v := ?v257) 16 rfl (by kernel_rfl) (by kernel_rfl) (by kernel_rfl) (fun _ _ _ h => h) (by rfl) ?y257 (by assumption) ?_
    case y257 => (intro w hSw; (try dsimp only at hSw); go_simp; (try with_reducible rfl); (try omega))
    simp only [List.setIfInBounds_toArray, List.set_cons_zero, List.set_cons_succ]
    refine held_take (v := ?v260) 19 rfl (by kernel_rfl) (by kernel_rfl) (by kernel_rfl) (fun _ _ _ h => h) (by rfl) ?y260 (by assumption) ?_
    case y260 => (intro w hSw; (try dsimp only at hSw); go_simp; (try with_reducible rfl); (try omega))
    simp only [List.setIfInBounds_toArray, List.set_cons_zero, List.set_cons_succ]
    refine held_take (v := ?v263) 20 rfl (by kernel_rfl) (by kernel_rfl) (by kernel_rfl) (fun _ _ _ h => h) (by rfl) ?y263 (by assumption) ?_
    case y263 => (intro w hSw; (try dsimp only at hSw); go_simp; (try with_reducible rfl); (try omega))
    simp only [List.setIfInBounds_toArray, List.set_cons_zero, List.set_cons_succ]
    refine held_one 17 rfl (by kernel_rfl) (by rfl) (fun K hK => ?_)
    go_simp
    refine (HBx.out _ _ _ _ (J9.out.below (Below.refl _ _).drew)).mono ?_
    rintro e w10 ⟨⟨a10, n10, c10, rfl, i10⟩, b10⟩
    have g10 : Below w9.heap.size w9 w10 := below_up (Below.refl _ _).drew b10 (Nat.le_refl _)
    refine hK.out _ _ (HSt.out _ g10) (fun hHeld10 => ?_)
    clear hK K hHeld b10
    refine wpAnyH_more (fun W => (convert 22 9 (.slice a10 n10 c10)).run Try.prog W = .ok (.string ⟨l1.toArray⟩) W ∧ (convert 22 9 (.slice a1 l1.length c1)).run Try.prog W = .ok (.string ⟨l1.toArray⟩) W ∧ Below w9.heap.size w9 W) (fun W h => HSt.out _ h.2.2) _ _ _ _ ?_
    have hHeld11 := And.intro (i10.conv (P := Try.prog) Try.underlying22 Try.underlying5 Try.underlying9) (And.intro hHeld10.2.2.2 g10)
    clear hHeld10
    refine held_take (v := ?v276) 18 rfl (by kernel_rfl) (by kernel_rfl) (by kernel_rfl) (fun _ _ _ h => h) (by rfl) ?y276 (by assumption) ?_
    case y276 => (intro w hSw; (try dsimp only at hSw); go_simp; (try with_reducible rfl); (try omega))
    simp only [List.setIfInBounds_toArray, List.set_cons_zero, List.set_cons_succ]
    refine held_take (v := ?v279) 21 rfl (by kernel_rfl) (by kernel_rfl) (by kernel_rfl) (fun _ _ _ h => h) (by rfl) ?y279 (by assumption) ?_
    case y279 => (intro w hSw; (try dsimp only at hSw); go_simp; (try with_reducible rfl); (try omega))
    simp only [List.setIfInBounds_toArray, List.set_cons_zero, List.set_cons_succ]
    refine held_take (v := ?v282) 22 rfl (by kernel_rfl) (by kernel_rfl) (by kernel_rfl) (fun _ _ _ h => h) (by rfl) ?y282 (by assumption) ?_
    case y282 => (intro w hSw; (try dsimp only at hSw); go_simp; (try with_reducible rfl); (try omega))
    simp only [List.setIfInBounds_toArray, List.set_cons_zero, List.set_cons_succ]
    refine held_take (v := ?v285) 23 rfl (by kernel_rfl) (by kernel_rfl) (by kernel_rfl) (fun _ _ _ h => h) (by rfl) ?y285 (by assumption) ?_
    case y285 => (intro w hSw; (try dsimp only at hSw); go_simp; (try with_reducible rfl); (try omega))
    simp only [List.setIfInBounds_toArray, List.set_cons_zero, List.set_cons_succ]
    refine held_take (v := ?v288) 24 rfl (by kernel_rfl) (by kernel_rfl) (by kernel_rfl) (fun _ _ _ h => h) (by rfl) ?y288 (by assumption) ?_
    case y288 => (intro w hSw; (try dsimp only at hSw); go_simp; (try with_reducible rfl); (try omega))
    simp only [List.setIfInBounds_toArray, List.set_cons_zero, List.set_cons_succ]
    refine held_take (v := ?v291) 27 rfl (by kernel_rfl) (by kernel_rfl) (by kernel_rfl) (fun _ _ _ h => h) (by rfl) ?y291 (by assumption) ?_
    case y291 => (intro w hSw; (try dsimp only at hSw); go_simp; (try with_reducible rfl); (try omega))
    simp only [List.setIfInBounds_toArray, List.set_cons_zero, List.set_cons_succ]
    refine held_take (v := ?v294) 28 rfl (by kernel_rfl) (by kernel_rfl) (by kernel_rfl) (fun _ _ _ h => h) (by rfl) ?y294 (by assumption) ?_
    case y294 => (intro w hSw; (try dsimp only at hSw); go_simp; (try with_reducible rfl); (try omega))
    simp only [List.setIfInBounds_toArray, List.set_cons_zero, List.set_cons_succ]
    refine held_one 25 rfl (by kernel_rfl) (by rfl) (fun K hK => ?_)
    go_simp
    refine (HBy.out _ _ _ _ (I9.out.below g10)).mono ?_
    rintro e w12 ⟨⟨a12, n12, c12, rfl, i12⟩, b12⟩
    have g12 : Below w9.heap.size w9 w12 := below_up g10 b12 g10.size
    have hHeld12 := And.intro ((i10.below b12).conv (P := Try.prog) Try.underlying22 Try.underlying5 Try.underlying9) (And.intro (HSt.out _ g12).2.2.2 g12)
    refine hK.out _ _ hHeld12 (fun hHeld13 => ?_)
    clear hK K hHeld11 hHeld12
    refine wpAnyH_more (fun W => (convert 22 9 (.slice a12 n12 c12)).run Try.prog W = .ok (.string ⟨l1.toArray⟩) W ∧ ((convert 22 9 (.slice a10 n10 c10)).run Try.prog W = .ok (.string ⟨l1.toArray⟩) W ∧ (convert 22 9 (.slice a1 l1.length c1)).run Try.prog W = .ok (.string ⟨l1.toArray⟩) W ∧ Below w9.heap.size w9 W)) (fun W h => h.2) _ _ _ _ ?_
    have hHeld14 := And.intro (i12.conv (P := Try.prog) Try.underlying22 Try.underlying5 Try.underlying9) hHeld13
    clear hHeld13
    have hw40 : IntKind.i64.wrap (40 + (l1.length : Int)) = 40 + (l1.length : Int) := by rw [IntKind.wrap_i64]; omega
    refine held_take (v := ?v309) 26 rfl (by kernel_rfl) (by kernel_rfl) (by kernel_rfl) (fun _ _ _ h => h) (by rfl) ?y309 (by assumption) ?_
    case y309 => (intro w hSw; (try dsimp only at hSw); go_simp; (try with_reducible rfl); (try omega))
    simp only [List.setIfInBounds_toArray, List.set_cons_zero, List.set_cons_succ]
    refine held_take (v := ?v312) 29 rfl (by kernel_rfl) (by kernel_rfl) (by kernel_rfl) (fun _ _ _ h => h) (by rfl) ?y312 (by assumption) ?_
    case y312 => (intro w hSw; (try dsimp only at hSw); go_simp; (try with_reducible rfl); (try omega))
    simp only [List.setIfInBounds_toArray, List.set_cons_zero, List.set_cons_succ]
    refine held_take (v := ?v315) 30 rfl (by kernel_rfl) (by kernel_rfl) (by kernel_rfl) (fun _ _ _ h => h) (by rfl) ?y315 (by assumption) ?_
    case y315 => (intro w hSw; (try dsimp only at hSw); go_simp; (try with_reducible rfl); (try omega))
    simp only [List.setIfInBounds_toArray, List.set_cons_zero, List.set_cons_succ]
    refine held_take (v := ?v318) 31 rfl (by kernel_rfl) (by kernel_rfl) (by kernel_rfl) (fun _ _ _ h => h) (by rfl) ?y318 (by assumption) ?_
    case y318 => (intro w hSw; (try dsimp only at hSw); go_simp; (try with_reducible rfl); (try omega))
    simp only [List.setIfInBounds_toArray, List.set_cons_zero, List.set_cons_succ]
    refine held_take (v := ?v321) 32 rfl (by kernel_rfl) (by kernel_rfl) (by kernel_rfl) (fun _ _ _ h => h) (by rfl) ?y321 (by assumption) ?_
    case y321 => (intro w hSw; (try dsimp only at hSw); go_simp; (try with_reducible rfl); (try omega))
    simp only [List.setIfInBounds_toArray, List.set_cons_zero, List.set_cons_succ]
    refine held_take (v := ?v324) 33 rfl (by kernel_rfl) (by kernel_rfl) (by kernel_rfl) (fun _ _ _ h => h) (by rfl) ?y324 (by assumption) ?_
    case y324 => (intro w hSw; (try dsimp only at hSw); go_simp; (try with_reducible rfl); (try omega))
    simp only [List.setIfInBounds_toArray, List.set_cons_zero, List.set_cons_succ]
    refine held_take (v := ?v327) 34 rfl (by kernel_rfl) (by kernel_rfl) (by kernel_rfl) (fun _ _ _ h => h) (by rfl) ?y327 (by assumption) ?_
    case y327 => (intro w hSw; (try dsimp only at hSw); go_simp; (try with_reducible rfl); (try omega))
    simp only [List.setIfInBounds_toArray, List.set_cons_zero, List.set_cons_succ]
    refine held_take (v := ?v330) 35 rfl (by kernel_rfl) (by kernel_rfl) (by kernel_rfl) (fun _ _ _ h => h) (by rfl) ?y330 (by assumption) ?_
    case y330 => (intro w hSw; (try dsimp only at hSw); go_simp; (try with_reducible rfl); (try omega))
    simp only [List.setIfInBounds_toArray, List.set_cons_zero, List.set_cons_succ]
    refine held_take (v := ?v333) 36 rfl (by kernel_rfl) (by kernel_rfl) (by kernel_rfl) (fun _ _ _ h => h) (by rfl) ?y333 (by assumption) ?_
    case y333 => (intro w hSw; (try dsimp only at hSw); go_simp; (try with_reducible rfl); (try omega))
    simp only [List.setIfInBounds_toArray, List.set_cons_zero, List.set_cons_succ]
    refine held_take (v := ?v336) 37 rfl (by kernel_rfl) (by kernel_rfl) (by kernel_rfl) (fun _ _ _ h => h) (by rfl) ?y336 (by assumption) ?_
    case y336 => (intro w hSw; (try dsimp only at hSw); go_simp; (try with_reducible rfl); (try omega))
    simp only [List.setIfInBounds_toArray, List.set_cons_zero, List.set_cons_succ]
    refine held_take (v := ?v339) 38 rfl (by kernel_rfl) (by kernel_rfl) (by kernel_rfl) (fun _ _ _ h => h) (by rfl) ?y339 (by assumption) ?_
    case y339 => (intro w hSw; (try dsimp only at hSw); go_simp; (try with_reducible rfl); (try omega))
    simp only [List.setIfInBounds_toArray, List.set_cons_zero, List.set_cons_succ]
    refine held_take (v := ?v342) 39 rfl (by kernel_rfl) (by kernel_rfl) (by kernel_rfl) (fun _ _ _ h => h) (by rfl) ?y342 (by assumption) ?_
    case y342 => (intro w hSw; (try dsimp only at hSw); go_simp; (try with_reducible rfl); (try omega))
    simp only [List.setIfInBounds_toArray, List.set_cons_zero, List.set_cons_succ]
    refine held_take (v := ?v345) 40 rfl (by kernel_rfl) (by kernel_rfl) (by kernel_rfl) (fun _ _ _ h => h) (by rfl) ?y345 (by assumption) ?_
    case y345 => (intro w hSw; (try dsimp only at hSw); go_simp; (try with_reducible rfl); (try omega))
    simp only [List.setIfInBounds_toArray, List.set_cons_zero, List.set_cons_succ]
    refine held_take (v := ?v348) 41 rfl (by kernel_rfl) (by kernel_rfl) (by kernel_rfl) (fun _ _ _ h => h) (by rfl) ?y348 (by assumption) ?_
    case y348 => (intro w hSw; (try dsimp only at hSw); go_simp; (try with_reducible rfl); (try omega))
    simp only [List.setIfInBounds_toArray, List.set_cons_zero, List.set_cons_succ]
    refine wpAnyH_done (by kernel_rfl) ?_ _
    refine NoPanic.normal ?_
    have hg12 := (HSt.out _ g12).2.1
    have hq12 := (g12.block w8.heap.size (Array.getElem?_eq_some_iff.1 HQ9.out).1).trans HQ9.out
    have e12 := below_up E9.out g12 E9.out.size
    have cc6 : w12.cell? ⟨w.heap.size, 4, none⟩ = some (.int .u8 tt) := (hdr6_cell hg12 4).trans HCl.out
    have fz6 : w12.frozen? ⟨w.heap.size, 4, none⟩ = false := frozen_of_row w12 w.heap.size 4 _ _ hg12
    have HG13 := Lib.hid (hdr6_set hg12 4 _ HS4.out)
    have HQ13 := Lib.hid ((Below.heap_setCell w12 ⟨w.heap.size, 4, none⟩ (.int .u8 ((tt + 1) % 256)) _ HNE.out).trans hq12)
    have E13 := Lib.hid (e12.setCell (p := ⟨w.heap.size, 4, none⟩) (Nat.le_refl _) (.int .u8 ((tt + 1) % 256)))
    clear hHeld14 hg12 hq12 e12 g12 b12 i12 i10 g10 HSt I9 J9 E9 HG9 HQ9
    go_wp2_with (first | (refine wpList_load_hdr6G rfl (.tmp 17) rfl w8.heap.size H2 HW2.out rfl HQ13.out ?_) | (refine wpList_load_hdr6G rfl (.tmp 3) rfl w.heap.size H2 HW2.out rfl HG13.out ?_) | (refine wpList_eql_hdr6G rfl 123 124 _ rfl H2 HW2.out rfl rfl ?_))
    go_ret
    exact ⟨rfl, E13.out⟩
  · have hp := hP l1 rfl
    have HP0 := Lib.hid (fun W (i : IsB W (.slice a1 l1.length c1) l1) => put6_any h f a1 l1.length c1 l1 W i (by omega))
    rw [hp, hC] at HP0
    clear hP hp hC f
    go_enter Try.func5, Try.ntmps5
    go_wp2_with (go_at_call 7; refine HA.out.mono ?_; rintro e w1 ⟨rfl, b1⟩; refine Hid.out ?_)
    refine Lib.hid ?_
    obtain ⟨hg1, e1⟩ := HC.out _ b1
    have HG1 := Lib.hid hg1
    have B1 := Lib.hid b1
    have I1 := Lib.hid (F1.out.below e1)
    clear b1 hg1 e1
    go_wp2_with (first | (refine wpList_load_hdr6 rfl (.tmp 3) rfl w.heap.size h HF.out rfl HG1.out ?_) | (go_at_call 12; refine (HP0.out _ I1.out).mono ?_; rintro e w2 ⟨⟨a3, n3, c3, rfl, i2⟩, b2⟩; refine Hid.out ?_))
    refine Lib.hid ?_
    obtain ⟨hq, -⟩ := i2.cells
    have hq2 : n3 = 0 := hq
    subst hq2
    have B2 := Lib.hid (HC.out _ (below_up B1.out b2 B1.out.size)).2
    clear b2 i2 hq
    go_wp2
    go_ret
    exact ⟨rfl, B2.out⟩
end Go.Proofs.Ytemocbcibnccpaa

/- Ip4Back: the walk. -/
import Derived.Test.YtchkbdgoghcgcaaAw4
import Derived.Test.YtchkbdgoghcgcaaIpQ
namespace Go.Proofs.Ytchkbdgoghcgcaa
open Go Go.RowKit

set_option maxHeartbeats 4000000 in
theorem neq_hdr (h : Hdr) (W : World) (i j : Nat) : (do eqGuard .neq 27 (.tmp i) (.tmp j) h.val h.val; binOp .neq 27 h.val h.val : Sem Value).run Try.prog W = .ok (.bool false) W := by
  obtain ⟨tos, len, id, keep, more, off, ttl, proto, s0, s1, s2, s3, d0, d1, d2, d3, opt⟩ := h
  unfold Hdr.val Hdr.cells
  have h1 := fun a b c d => eq_four W a b c d
  go_simp
theorem exec_neq_hdr {ρ : Operand → Value} {o : Oper} {W : World} (i j : Nat) (ty : TypeId) (ho : o.op = .binOp .neq 27 (.tmp i) (.tmp j) ty) (h : Hdr) (hx : ρ (.tmp i) = h.val) (hy : ρ (.tmp j) = h.val) :
    (execOp ρ o).run Try.prog W = .ok (.value (.bool false)) W := by
  have := neq_hdr h W i j
  unfold execOp
  simp only [ho, hx, hy, Sem.run_bind] at this ⊢
  rw [this]
  rfl
theorem putC4_small (h : Hdr) (n : Nat) (hn : n ≤ 1000) (hC : putC4 h n ≠ 0) : putC4 h n = 1 := by
  unfold putC4 at *
  cases hf : h.fitB
  · rfl
  · have := size_le ((Hdr.fit_iff h).1 hf)
    rw [hf] at hC
    simp only [if_true] at hC
    rw [if_pos (by omega)] at hC
    exact absurd rfl hC
theorem ttl_up (t : UInt8) : (((t.toNat : Int) + 1) % 256) = ((t + 1).toNat : Int) := by
  rw [UInt8.toNat_add]
  have := UInt8.toNat_lt t
  show _ = (((t.toNat + 1) % 256 : Nat) : Int)
  omega

set_option maxRecDepth 100000 in
set_option maxHeartbeats 8000000 in
theorem back4_walk (h : Hdr) (a1 : Option Addr) (n1 c1 : Nat) (l1 : List UInt8) (a2 : Option Addr) (n2 c2 : Nat) (l2 : List UInt8) (w : World) (hid : h.id ≤ 65535) (f1 : IsB w (.slice a1 n1 c1) l1) (f2 : IsB w (.slice a2 n2 c2) l2) :
    Calls Try.prog 6 #[h.val, .slice a1 n1 c1, .slice a2 n2 c2] w fun e w' => e = .returned (.bool true) ∧ Below w.heap.size w w' := by
  obtain ⟨rfl, z1, m1, -⟩ := f1.cells
  obtain ⟨rfl, z2, m2, -⟩ := f2.cells
  have hsz : (⟨h.opt.toArray⟩ : ByteArray).size = h.opt.length := by simp [ByteArray.size]
  have b0 : Below w.heap.size w (w.alloc (.cells h.cells 27)) := (Below.refl _ _).alloc (Nat.le_refl _) _
  have hg0 := heap_alloc_new w (.cells h.cells 27)
  have HA := Lib.hid (awake4_any (w.alloc (.cells h.cells 27)))
  have HC : Hid (∀ W, Below (w.alloc (.cells h.cells 27)).heap.size (w.alloc (.cells h.cells 27)) W → W.heap[w.heap.size]? = some (.cells h.cells 27 (0, 0)) ∧ W.cell? ⟨w.heap.size, 16, none⟩ = some (.string ⟨h.opt.toArray⟩) ∧ Below w.heap.size w W) := by
    intro W hb
    have h1 := (hb.block w.heap.size (by simp)).trans hg0
    exact ⟨h1, hdr_cell h1 16, below_up b0 hb b0.size⟩
  have F1 := Lib.hid f1
  have F2 := Lib.hid f2
  rw [show h.val = .agg h.cells from rfl]
  unfold maxLen at m1 m2
  clear f1 f2 b0 hg0
  by_cases hbig : 100 < h.opt.length ∨ 1000 < l1.length ∨ 100 < l2.length
  · have hb2 : 100 < (h.opt.length : Int) ∨ (¬ 100 < (h.opt.length : Int) ∧ 1000 < (l1.length : Int)) ∨ (¬ 100 < (h.opt.length : Int) ∧ ¬ 1000 < (l1.length : Int) ∧ 100 < (l2.length : Int)) := by omega
    clear hbig
    generalize h.opt.length = M at *
    rcases hb2 with hb2 | ⟨hb3, hb2⟩ | ⟨hb3, hb4, hb2⟩
    all_goals
      go_enter Try.func6, Try.ntmps6
      go_wp2_with (go_at_call 9; refine HA.out.mono ?_; rintro e w1 ⟨rfl, b1⟩; refine Hid.out ?_)
      refine Lib.hid ?_
      obtain ⟨-, d16, e1⟩ := HC.out _ b1
      have E1 := Lib.hid e1
      clear e1 b1
      go_wp2
      go_ret
      exact ⟨rfl, E1.out⟩
  have ho2 : (h.opt.length : Int) ≤ 100 := by omega
  have hl1 : l1.length ≤ 1000 := by omega
  have hl2 : l2.length ≤ 100 := by omega
  have hl1' : (l1.length : Int) ≤ 1000 := by omega
  have hl2' : (l2.length : Int) ≤ 100 := by omega
  clear hbig
  rcases putC4_cases h l1.length with ⟨hC, f, hn⟩ | ⟨hC, hP⟩
  · have HP := Lib.hid (fun W (i : IsB W (.slice a1 l1.length c1) l1) => put4_own h a1 l1.length c1 l1 W f hid i (by omega) hn)
    have ft : ({ h with ttl := h.ttl + 1 } : Hdr).fit := ⟨f.o1, f.o2, f.f0, f.f1⟩
    obtain ⟨x1, x2, x3, x4⟩ := pkt_told f hid l1 l2 hn
    obtain ⟨y1, y2, y3, -⟩ := pkt_told (h := { h with ttl := h.ttl + 1 }) ft hid l1 l2 hn
    have hs := size_le f
    have h20 : 20 ≤ h.size := by unfold Hdr.size; omega
    have lx : (pktL h l1).length = h.size + l1.length := pktL_length _ _
    have lxx : (pktL h l1 ++ l2).length = h.size + l1.length + l2.length := by rw [List.length_append, lx]
    have lyy : (pktL { h with ttl := h.ttl + 1 } l1 ++ l2).length = h.size + l1.length + l2.length := by rw [List.length_append, pktL_length]; rfl
    have HPx := Lib.hid (fun a n cap W (i : IsB W (.slice a n cap) (pktL h l1 ++ l2)) => parse_any a n cap _ W i (by rw [lxx]; omega))
    have HPy := Lib.hid (fun a n cap W (i : IsB W (.slice a n cap) (pktL { h with ttl := h.ttl + 1 } l1 ++ l2)) => parse_any a n cap _ W i (by rw [lyy]; omega))
    have HBx := Lib.hid (fun a n cap W (i : IsB W (.slice a n cap) (pktL h l1 ++ l2)) => body_any a n cap _ W i (by rw [lxx]; omega))
    have HBy := Lib.hid (fun a n cap W (i : IsB W (.slice a n cap) (pktL { h with ttl := h.ttl + 1 } l1 ++ l2)) => body_any a n cap _ W i (by rw [lyy]; omega))
    have HTx := Lib.hid (fun a n cap W (i : IsB W (.slice a n cap) (pktL h l1 ++ l2)) => ttl_any a n cap _ _ (h.ttl + 1) W (ttl_up h.ttl) i (by rw [lxx]; omega))
    have hcast : ((h.size + l1.length : Nat) : Int) = (h.size : Int) + (l1.length : Int) := by omega
    obtain ⟨H1, eH1⟩ : ∃ H1 : Hdr, H1 = { h with len := (h.size : Int) + (l1.length : Int) } := ⟨_, rfl⟩
    obtain ⟨H2, eH2⟩ : ∃ H2 : Hdr, H2 = { ({ h with ttl := h.ttl + 1 } : Hdr) with len := (h.size : Int) + (l1.length : Int) } := ⟨_, rfl⟩
    have x2' : ip4H (pktL h l1 ++ l2) = H1 := by rw [x2, eH1, hcast]
    have y2' : ip4H (pktL { h with ttl := h.ttl + 1 } l1 ++ l2) = H2 := by
      rw [y2, eH2]
      show ({ ({ h with ttl := h.ttl + 1 } : Hdr) with len := ((h.size + l1.length : Nat) : Int) } : Hdr) = _
      rw [hcast]
    rw [x1, x2'] at HPx
    rw [y1, y2'] at HPy
    rw [x3] at HBx
    rw [y3] at HBy
    rw [x1, x4] at HTx
    have hset1 : ∀ L, h.cells.setIfInBounds 1 (.int .i64 L) = ({ h with len := L } : Hdr).cells := setLen_cells h
    have hset6 : ∀ L, ({ h with len := L } : Hdr).cells.setIfInBounds 6 (.int .u8 (((h.ttl.toNat : Int) + 1) % 256)) = ({ ({ h with ttl := h.ttl + 1 } : Hdr) with len := L } : Hdr).cells := by
      intro L
      rw [ttl_up]
      rfl
    have hcl : ∀ L, ({ h with len := L } : Hdr).cells[6]? = some (.int .u8 (h.ttl.toNat : Int)) := fun _ => rfl
    have hc1 : h.cells[1]? = some (.int .i64 h.len) := rfl
    rw [lx] at HP
    have HLxx := Lib.hid lxx
    have HLyy := Lib.hid lyy
    have HS1 := Lib.hid (hset1 ((h.size : Int) + (l1.length : Int)))
    have HS6 := Lib.hid (hset6 ((h.size : Int) + (l1.length : Int)))
    have HCl := Lib.hid (hcl ((h.size : Int) + (l1.length : Int)))
    rw [← eH1] at HS1 HS6 HCl
    rw [← eH2] at HS6
    have ht0 : 0 ≤ (h.ttl.toNat : Int) := by omega
    have ht1 : (h.ttl.toNat : Int) ≤ 255 := by have := UInt8.toNat_lt h.ttl; omega
    clear hC f ft x1 x2 x3 x4 y1 y2 y3 lx lxx lyy hset1 hset6 hcl x2' y2' hcast eH1 eH2
    generalize pktL { h with ttl := h.ttl + 1 } l1 ++ l2 = YL at *
    generalize hX : pktL h l1 = X at *
    generalize hXL : X ++ l2 = XL at *
    generalize h.size = Z at *
    generalize (h.ttl.toNat : Int) = tt at *
    have HXL := Lib.hid hXL
    clear hX hXL
    generalize h.opt.length = M at *
    go_enter Try.func6, Try.ntmps6
    go_wp2_with (go_at_call 9; refine HA.out.mono ?_; rintro e w1 ⟨rfl, b1⟩; refine Hid.out ?_)
    refine Lib.hid ?_
    obtain ⟨hg1, d16, e1⟩ := HC.out _ b1
    have HG1 := Lib.hid hg1
    have B1 := Lib.hid b1
    have I1 := Lib.hid (F1.out.below e1)
    have E1 := Lib.hid e1
    have hbl := (Array.getElem?_eq_some_iff.1 hg1).1
    clear b1 hg1 e1
    go_wp2_with (first | (refine wpList_load_hdr rfl (.tmp 3) rfl w.heap.size h rfl HG1.out ?_) | (go_at_call 14; refine (HP.out _ I1.out).mono ?_; rintro e w2 ⟨⟨v2, rfl, o2⟩, b2⟩; refine Hid.out ?_))
    refine Lib.hid ?_
    obtain ⟨g2, cg, rfl, hgl, hgs⟩ := own_form o2 (by omega)
    have B2 := Lib.hid (below_up B1.out b2 B1.out.size)
    obtain ⟨hg2, -, e2⟩ := HC.out _ B2.out
    have cc1 : w2.cell? ⟨w.heap.size, 1, none⟩ = some (.int .i64 h.len) := (hdr_cell hg2 1).trans hc1
    have fz1 : w2.frozen? ⟨w.heap.size, 1, none⟩ = false := frozen_of_row w2 w.heap.size 1 _ _ hg2
    have hg3 := hdr_set hg2 1 _ HS1.out
    have o3 : (w2.setCell ⟨w.heap.size, 1, none⟩ (.int .i64 ((Z : Int) + (l1.length : Int)))).ownsRow w1.heap.size 5 1 (.slice (some ⟨g2, 0, none⟩) (Z + l1.length) cg) (Z + l1.length) (byteVals X) := own_other o2 (fun k _ hk => Below.heap_setCell _ _ _ _ (by show k ≠ w.heap.size; omega))
    have e3 := e2.setCell (p := ⟨w.heap.size, 1, none⟩) (Nat.le_refl _) (.int .i64 ((Z : Int) + (l1.length : Int)))
    have O3 := Lib.hid o3
    have HG3 := Lib.hid hg3
    have E3 := Lib.hid e3
    have I3 := Lib.hid (F2.out.below e3)
    have hs3 : w1.heap.size ≤ (w2.setCell ⟨w.heap.size, 1, none⟩ (.int .i64 ((Z : Int) + (l1.length : Int)))).heap.size := by rw [World.size_setCell]; exact b2.size
    have HS3 := Lib.hid hs3
    clear b2 hg2 o2 o3 hg3 e3 e2 hs3 HG1 hc1
    go_wp2_with (at_builtin; refine append_bytes rfl (.tmp 51) (.tmp 52) rfl w1.heap.size _ (Z + l1.length) X rfl O3.out a2 l2.length c2 l2 rfl I3.out (by omega) HS3.out ?_; intro v4 w4 o4 g4; refine Hid.out ?_)
    refine Lib.hid ?_
    have hlow := owned_low O3.out
    have b34 := (Below.refl w1.heap.size (w2.setCell ⟨w.heap.size, 1, none⟩ (.int .i64 ((Z : Int) + (l1.length : Int))))).grown g4 HS3.out hlow
    have hg4 := (b34.block w.heap.size hbl).trans HG3.out
    have e4 := E3.out.grown g4 (Nat.le_trans E1.out.size HS3.out) (fun k hk => Nat.le_trans E1.out.size (hlow k hk))
    rw [HXL.out] at o4
    obtain ⟨a4, n4, c4, rfl, i4⟩ := owned_shape o4
    obtain ⟨hn4, -⟩ := i4.cells
    have hn4' : n4 = Z + l1.length + l2.length := hn4.trans HLxx.out
    subst hn4'
    have HG4 := Lib.hid hg4
    have E4 := Lib.hid e4
    have I4 := Lib.hid i4
    clear hlow b34 hg4 e4 o4 g4 i4 hn4 O3 HG3 E3 HS3 I3 I1 hgl hgs cc1 fz1
    go_wp2_with (go_at_call 10; refine (HPx.out _ _ _ _ I4.out).mono ?_; rintro e w5 ⟨rfl, b5⟩; refine Hid.out ?_)
    refine Lib.hid ?_
    have b45 := b5.alloc b5.size (.cells H1.cells 27)
    have hg6 := (b45.block w.heap.size (Array.getElem?_eq_some_iff.1 HG4.out).1).trans HG4.out
    have hp6 := heap_alloc_new w5 (.cells H1.cells 27)
    have cc6 : (w5.alloc (.cells H1.cells 27)).cell? ⟨w.heap.size, 6, none⟩ = some (.int .u8 tt) := (hdr_cell hg6 6).trans HCl.out
    have I6 := Lib.hid (I4.out.below b45)
    have E6 := Lib.hid (below_up E4.out b45 E4.out.size)
    have HG6 := Lib.hid hg6
    have HP6 := Lib.hid hp6
    clear b5 b45 hg6 hp6 HG4 E4 I4
    go_wp2_with (first | (refine wpList_store_new rfl (.tmp 10) (.tmp 57) rfl H1 _ rfl rfl rfl ?_) | (go_at_call 18; refine (HTx.out _ _ _ _ I6.out).mono ?_; rintro e w7 ⟨⟨a7, n7, c7, rfl, i7⟩, b7⟩; refine Hid.out ?_))
    refine Lib.hid ?_
    obtain ⟨hn7, -⟩ := i7.cells
    have hn7' : n7 = Z + l1.length + l2.length := hn7.trans HLyy.out
    subst hn7'
    have I7 := Lib.hid i7
    have J7 := Lib.hid (I6.out.below b7)
    have E7 := Lib.hid (below_up E6.out b7 E6.out.size)
    have HG7 := Lib.hid ((b7.block w.heap.size (Array.getElem?_eq_some_iff.1 HG6.out).1).trans HG6.out)
    have HP7 := Lib.hid ((b7.block w5.heap.size (Array.getElem?_eq_some_iff.1 HP6.out).1).trans HP6.out)
    clear i7 b7 hn7 cc6 I6 E6 HG6 HP6
    go_wp2_with (go_at_call 10; refine (HPy.out _ _ _ _ I7.out).mono ?_; rintro e w8 ⟨rfl, b8⟩; refine Hid.out ?_)
    refine Lib.hid ?_
    have b89 := b8.alloc b8.size (.cells H2.cells 27)
    have hg9 := (b89.block w.heap.size (Array.getElem?_eq_some_iff.1 HG7.out).1).trans HG7.out
    have hp9 := (b89.block w5.heap.size (Array.getElem?_eq_some_iff.1 HP7.out).1).trans HP7.out
    have hq9 := heap_alloc_new w8 (.cells H2.cells 27)
    have i9 := I7.out.below b89
    have j9 := J7.out.below b89
    have e9 := below_up E7.out b89 E7.out.size
    have hne9 : w8.heap.size ≠ w.heap.size := by have h1 := (Array.getElem?_eq_some_iff.1 HG7.out).1; have h2 := b8.size; omega
    clear b8 b89 I7 J7 E7 HG7 HP7
    go_wp2_with (refine wpList_store_new rfl (.tmp 14) (.tmp 70) rfl H2 _ rfl rfl rfl ?_)
    generalize (w8.alloc (.cells H2.cells 27)) = w9 at *
    have HSt : Hid (∀ W, Below w9.heap.size w9 W → Below w9.heap.size w9 W ∧ W.heap[w.heap.size]? = some (.cells H1.cells 27 (0, 0)) ∧ W.heap[w5.heap.size]? = some (.cells H1.cells 27 (0, 0)) ∧ (convert 22 9 (.slice a1 l1.length c1)).run Try.prog W = .ok (.string ⟨l1.toArray⟩) W) := by
      intro W hb
      exact ⟨hb, (hb.block _ (Array.getElem?_eq_some_iff.1 hg9).1).trans hg9, (hb.block _ (Array.getElem?_eq_some_iff.1 hp9).1).trans hp9, (F1.out.below (below_up e9 hb e9.size)).conv Try.underlying22 Try.underlying5 Try.underlying9⟩
    have I9 := Lib.hid i9
    have J9 := Lib.hid j9
    have E9 := Lib.hid e9
    have HG9 := Lib.hid hg9
    have HQ9 := Lib.hid hq9
    have HNE := Lib.hid hne9
    clear i9 j9 e9 hg9 hp9 hq9 hne9
    refine wp_region_noPanic ?_
    refine wp_region_held_drew (S := fun W => Below w9.heap.size w9 W ∧ W.heap[w.heap.size]? = some (.cells H1.cells 27 (0, 0)) ∧ W.heap[w5.heap.size]? = some (.cells H1.cells 27 (0, 0)) ∧ (convert 22 9 (.slice a1 l1.length c1)).run Try.prog W = .ok (.string ⟨l1.toArray⟩) W) (by kernel_rfl) (HSt.out _ (Below.refl _ _).drew) (fun hHeld => ?_)
    refine held_take (v := H1.val) 0 rfl (by kernel_rfl) (by kernel_rfl) (by kernel_rfl) (fun _ _ _ h => h) (by rfl) (fun W hSw => exec_load_hdr (.tmp 10) rfl w5.heap.size H1 rfl hSw.2.2.1) (by assumption) ?_
    simp only [List.setIfInBounds_toArray, List.set_cons_zero, List.set_cons_succ]
    refine held_take (v := H1.val) 1 rfl (by kernel_rfl) (by kernel_rfl) (by kernel_rfl) (fun _ _ _ h => h) (by rfl) (fun W hSw => exec_load_hdr (.tmp 3) rfl w.heap.size H1 rfl hSw.2.1) (by assumption) ?_
    simp only [List.setIfInBounds_toArray, List.set_cons_zero, List.set_cons_succ]
    refine held_take (v := .bool false) 2 rfl (by kernel_rfl) (by kernel_rfl) (by kernel_rfl) (fun _ _ _ h => h) (by rfl) (fun W _ => exec_neq_hdr 72 73 _ rfl H1 rfl rfl) (by assumption) ?_
    simp only [List.setIfInBounds_toArray, List.set_cons_zero, List.set_cons_succ]
    refine held_take (v := ?v223) 3 rfl (by kernel_rfl) (by kernel_rfl) (by kernel_rfl) (fun _ _ _ h => h) (by rfl) ?y223 (by assumption) ?_
    case y223 => (intro w hSw; (try dsimp only at hSw); go_simp; (try with_reducible rfl); (try omega))
    simp only [List.setIfInBounds_toArray, List.set_cons_zero, List.set_cons_succ]
    refine held_take (v := ?v226) 4 rfl (by kernel_rfl) (by kernel_rfl) (by kernel_rfl) (fun _ _ _ h => h) (by rfl) ?y226 (by assumption) ?_
    case y226 => (intro w hSw; (try dsimp only at hSw); go_simp; (try with_reducible rfl); (try omega))
    simp only [List.setIfInBounds_toArray, List.set_cons_zero, List.set_cons_succ]
    refine held_take (v := ?v229) 5 rfl (by kernel_rfl) (by kernel_rfl) (by kernel_rfl) (fun _ _ _ h => h) (by rfl) ?y229 (by assumption) ?_
    case y229 => (intro w hSw; (try dsimp only at hSw); go_simp; (try with_reducible rfl); (try omega))
    simp only [List.setIfInBounds_toArray, List.set_cons_zero, List.set_cons_succ]
    refine held_take (v := ?v232) 6 rfl (by kernel_rfl) (by kernel_rfl) (by kernel_rfl) (fun _ _ _ h => h) (by rfl) ?y232 (by assumption) ?_
    case y232 => (intro w hSw; (try dsimp only at hSw); go_simp; (try with_reducible rfl); (try omega))
    simp only [List.setIfInBounds_toArray, List.set_cons_zero, List.set_cons_succ]
    refine held_take (v := ?v235) 7 rfl (by kernel_rfl) (by kernel_rfl) (by kernel_rfl) (fun _ _ _ h => h) (by rfl) ?y235 (by assumption) ?_
    case y235 => (intro w hSw; (try dsimp only at hSw); go_simp; (try with_reducible rfl); (try omega))
    simp only [List.setIfInBounds_toArray, List.set_cons_zero, List.set_cons_succ]
    refine held_take (v := ?v238) 8 rfl (by kernel_rfl) (by kernel_rfl) (by kernel_rfl) (fun _ _ _ h => h) (by rfl) ?y238 (by assumption) ?_
    case y238 => (intro w hSw; (try dsimp only at hSw); go_simp; (try with_reducible rfl); (try omega))
    simp only [List.setIfInBounds_toArray, List.set_cons_zero, List.set_cons_succ]
    refine held_take (v := ?v241) 9 rfl (by kernel_rfl) (by kernel_rfl) (by kernel_rfl) (fun _ _ _ h => h) (by rfl) ?y241 (by assumption) ?_
    case y241 => (intro w hSw; (try dsimp only at hSw); go_simp; (try with_reducible rfl); (try omega))
    simp only [List.setIfInBounds_toArray, List.set_cons_zero, List.set_cons_succ]
    refine held_take (v := ?v244) 10 rfl (by kernel_rfl) (by kernel_rfl) (by kernel_rfl) (fun _ _ _ h => h) (by rfl) ?y244 (by assumption) ?_
    case y244 => (intro w hSw; (try dsimp only at hSw); go_simp; (try with_reducible rfl); (try omega))
    simp only [List.setIfInBounds_toArray, List.set_cons_zero, List.set_cons_succ]
    refine held_take (v := ?v247) 11 rfl (by kernel_rfl) (by kernel_rfl) (by kernel_rfl) (fun _ _ _ h => h) (by rfl) ?y247 (by assumption) ?_
    case y247 => (intro w hSw; (try dsimp only at hSw); go_simp; (try with_reducible rfl); (try omega))
    simp only [List.setIfInBounds_toArray, List.set_cons_zero, List.set_cons_succ]
    refine held_take (v := ?v250) 12 rfl (by kernel_rfl) (by kernel_rfl) (by kernel_rfl) (fun _ _ _ h => h) (by rfl) ?y250 (by assumption) ?_
    case y250 => (intro w hSw; (try dsimp only at hSw); go_simp; (try with_reducible rfl); (try omega))
    simp only [List.setIfInBounds_toArray, List.set_cons_zero, List.set_cons_succ]
    refine held_take (v := ?v253) 13 rfl (by kernel_rfl) (by kernel_rfl) (by kernel_rfl) (fun _ _ _ h => h) (by rfl) ?y253 (by assumption) ?_
    case y253 => (intro w hSw; (try dsimp only at hSw); go_simp; (try with_reducible rfl); (try omega))
    simp only [List.setIfInBounds_toArray, List.set_cons_zero, List.set_cons_succ]
    refine held_take (v := ?v256) 14 rfl (by kernel_rfl) (by kernel_rfl) (by kernel_rfl) (fun _ _ _ h => h) (by rfl) ?y256 (by assumption) ?_
    case y256 => (intro w hSw; (try dsimp only at hSw); go_simp; (try with_reducible rfl); (try omega))
    simp only [List.setIfInBounds_toArray, List.set_cons_zero, List.set_cons_succ]
    refine held_take (v := ?v259) 15 rfl (by kernel_rfl) (by kernel_rfl) (by kernel_rfl) (fun _ _ _ h => h) (by rfl) ?y259 (by assumption) ?_
    case y259 => (intro w hSw; (try dsimp only at hSw); go_simp; (try with_reducible rfl); (try omega))
    simp only [List.setIfInBounds_toArray, List.set_cons_zero, List.set_cons_succ]
    refine held_take (v := ?v262) 16 rfl (by kernel_rfl) (by kernel_rfl) (by kernel_rfl) (fun _ _ _ h => h) (by rfl) ?y262 (by assumption) ?_
    case y262 => (intro w hSw; (try dsimp only at hSw); go_simp; (try with_reducible rfl); (try omega))
    simp only [List.setIfInBounds_toArray, List.set_cons_zero, List.set_cons_succ]
    refine held_take (v := ?v265) 19 rfl (by kernel_rfl) (by kernel_rfl) (by kernel_rfl) (fun _ _ _ h => h) (by rfl) ?y265 (by assumption) ?_
    case y265 => (intro w hSw; (try dsimp only at hSw); go_simp; (try with_reducible rfl); (try omega))
    simp only [List.setIfInBounds_toArray, List.set_cons_zero, List.set_cons_succ]
    refine held_take (v := ?v268) 20 rfl (by kernel_rfl) (by kernel_rfl) (by kernel_rfl) (fun _ _ _ h => h) (by rfl) ?y268 (by assumption) ?_
    case y268 => (intro w hSw; (try dsimp only at hSw); go_simp; (try with_reducible rfl); (try omega))
    simp only [List.setIfInBounds_toArray, List.set_cons_zero, List.set_cons_succ]
    refine held_one 17 rfl (by kernel_rfl) (by rfl) (fun K hK => ?_)
    go_simp
    refine (HBx.out _ _ _ _ (J9.out.below (Below.refl _ _).drew)).mono ?_
    rintro e w10 ⟨⟨a10, n10, c10, rfl, i10⟩, b10⟩
    have g10 : Below w9.heap.size w9 w10 := below_up (Below.refl _ _).drew b10 (Nat.le_refl _)
    refine hK.out _ _ (HSt.out _ g10) (fun hHeld10 => ?_)
    clear hK K hHeld b10
    refine wpAnyH_more (fun W => (convert 22 9 (.slice a10 n10 c10)).run Try.prog W = .ok (.string ⟨l1.toArray⟩) W ∧ (convert 22 9 (.slice a1 l1.length c1)).run Try.prog W = .ok (.string ⟨l1.toArray⟩) W ∧ Below w9.heap.size w9 W) (fun W h => HSt.out _ h.2.2) _ _ _ _ ?_
    have hHeld11 := And.intro (i10.conv (P := Try.prog) Try.underlying22 Try.underlying5 Try.underlying9) (And.intro hHeld10.2.2.2 g10)
    clear hHeld10
    refine held_take (v := ?v281) 18 rfl (by kernel_rfl) (by kernel_rfl) (by kernel_rfl) (fun _ _ _ h => h) (by rfl) ?y281 (by assumption) ?_
    case y281 => (intro w hSw; (try dsimp only at hSw); go_simp; (try with_reducible rfl); (try omega))
    simp only [List.setIfInBounds_toArray, List.set_cons_zero, List.set_cons_succ]
    refine held_take (v := ?v284) 21 rfl (by kernel_rfl) (by kernel_rfl) (by kernel_rfl) (fun _ _ _ h => h) (by rfl) ?y284 (by assumption) ?_
    case y284 => (intro w hSw; (try dsimp only at hSw); go_simp; (try with_reducible rfl); (try omega))
    simp only [List.setIfInBounds_toArray, List.set_cons_zero, List.set_cons_succ]
    refine held_take (v := ?v287) 22 rfl (by kernel_rfl) (by kernel_rfl) (by kernel_rfl) (fun _ _ _ h => h) (by rfl) ?y287 (by assumption) ?_
    case y287 => (intro w hSw; (try dsimp only at hSw); go_simp; (try with_reducible rfl); (try omega))
    simp only [List.setIfInBounds_toArray, List.set_cons_zero, List.set_cons_succ]
    refine held_take (v := ?v290) 23 rfl (by kernel_rfl) (by kernel_rfl) (by kernel_rfl) (fun _ _ _ h => h) (by rfl) ?y290 (by assumption) ?_
    case y290 => (intro w hSw; (try dsimp only at hSw); go_simp; (try with_reducible rfl); (try omega))
    simp only [List.setIfInBounds_toArray, List.set_cons_zero, List.set_cons_succ]
    refine held_take (v := ?v293) 24 rfl (by kernel_rfl) (by kernel_rfl) (by kernel_rfl) (fun _ _ _ h => h) (by rfl) ?y293 (by assumption) ?_
    case y293 => (intro w hSw; (try dsimp only at hSw); go_simp; (try with_reducible rfl); (try omega))
    simp only [List.setIfInBounds_toArray, List.set_cons_zero, List.set_cons_succ]
    refine held_take (v := ?v296) 27 rfl (by kernel_rfl) (by kernel_rfl) (by kernel_rfl) (fun _ _ _ h => h) (by rfl) ?y296 (by assumption) ?_
    case y296 => (intro w hSw; (try dsimp only at hSw); go_simp; (try with_reducible rfl); (try omega))
    simp only [List.setIfInBounds_toArray, List.set_cons_zero, List.set_cons_succ]
    refine held_take (v := ?v299) 28 rfl (by kernel_rfl) (by kernel_rfl) (by kernel_rfl) (fun _ _ _ h => h) (by rfl) ?y299 (by assumption) ?_
    case y299 => (intro w hSw; (try dsimp only at hSw); go_simp; (try with_reducible rfl); (try omega))
    simp only [List.setIfInBounds_toArray, List.set_cons_zero, List.set_cons_succ]
    refine held_one 25 rfl (by kernel_rfl) (by rfl) (fun K hK => ?_)
    go_simp
    refine (HBy.out _ _ _ _ (I9.out.below g10)).mono ?_
    rintro e w12 ⟨⟨a12, n12, c12, rfl, i12⟩, b12⟩
    have g12 : Below w9.heap.size w9 w12 := below_up g10 b12 g10.size
    have hHeld12 := And.intro ((i10.below b12).conv (P := Try.prog) Try.underlying22 Try.underlying5 Try.underlying9) (And.intro (HSt.out _ g12).2.2.2 g12)
    refine hK.out _ _ hHeld12 (fun hHeld13 => ?_)
    clear hK K hHeld11 hHeld12
    refine wpAnyH_more (fun W => (convert 22 9 (.slice a12 n12 c12)).run Try.prog W = .ok (.string ⟨l1.toArray⟩) W ∧ ((convert 22 9 (.slice a10 n10 c10)).run Try.prog W = .ok (.string ⟨l1.toArray⟩) W ∧ (convert 22 9 (.slice a1 l1.length c1)).run Try.prog W = .ok (.string ⟨l1.toArray⟩) W ∧ Below w9.heap.size w9 W)) (fun W h => h.2) _ _ _ _ ?_
    have hHeld14 := And.intro (i12.conv (P := Try.prog) Try.underlying22 Try.underlying5 Try.underlying9) hHeld13
    clear hHeld13
    refine held_take (v := ?v313) 26 rfl (by kernel_rfl) (by kernel_rfl) (by kernel_rfl) (fun _ _ _ h => h) (by rfl) ?y313 (by assumption) ?_
    case y313 => (intro w hSw; (try dsimp only at hSw); go_simp; (try with_reducible rfl); (try omega))
    simp only [List.setIfInBounds_toArray, List.set_cons_zero, List.set_cons_succ]
    refine held_take (v := ?v316) 29 rfl (by kernel_rfl) (by kernel_rfl) (by kernel_rfl) (fun _ _ _ h => h) (by rfl) ?y316 (by assumption) ?_
    case y316 => (intro w hSw; (try dsimp only at hSw); go_simp; (try with_reducible rfl); (try omega))
    simp only [List.setIfInBounds_toArray, List.set_cons_zero, List.set_cons_succ]
    refine held_take (v := ?v319) 30 rfl (by kernel_rfl) (by kernel_rfl) (by kernel_rfl) (fun _ _ _ h => h) (by rfl) ?y319 (by assumption) ?_
    case y319 => (intro w hSw; (try dsimp only at hSw); go_simp; (try with_reducible rfl); (try omega))
    simp only [List.setIfInBounds_toArray, List.set_cons_zero, List.set_cons_succ]
    refine held_take (v := ?v322) 31 rfl (by kernel_rfl) (by kernel_rfl) (by kernel_rfl) (fun _ _ _ h => h) (by rfl) ?y322 (by assumption) ?_
    case y322 => (intro w hSw; (try dsimp only at hSw); go_simp; (try with_reducible rfl); (try omega))
    simp only [List.setIfInBounds_toArray, List.set_cons_zero, List.set_cons_succ]
    refine held_take (v := ?v325) 32 rfl (by kernel_rfl) (by kernel_rfl) (by kernel_rfl) (fun _ _ _ h => h) (by rfl) ?y325 (by assumption) ?_
    case y325 => (intro w hSw; (try dsimp only at hSw); go_simp; (try with_reducible rfl); (try omega))
    simp only [List.setIfInBounds_toArray, List.set_cons_zero, List.set_cons_succ]
    refine held_take (v := ?v328) 33 rfl (by kernel_rfl) (by kernel_rfl) (by kernel_rfl) (fun _ _ _ h => h) (by rfl) ?y328 (by assumption) ?_
    case y328 => (intro w hSw; (try dsimp only at hSw); go_simp; (try with_reducible rfl); (try omega))
    simp only [List.setIfInBounds_toArray, List.set_cons_zero, List.set_cons_succ]
    refine held_take (v := ?v331) 34 rfl (by kernel_rfl) (by kernel_rfl) (by kernel_rfl) (fun _ _ _ h => h) (by rfl) ?y331 (by assumption) ?_
    case y331 => (intro w hSw; (try dsimp only at hSw); go_simp; (try with_reducible rfl); (try omega))
    simp only [List.setIfInBounds_toArray, List.set_cons_zero, List.set_cons_succ]
    refine held_take (v := ?v334) 35 rfl (by kernel_rfl) (by kernel_rfl) (by kernel_rfl) (fun _ _ _ h => h) (by rfl) ?y334 (by assumption) ?_
    case y334 => (intro w hSw; (try dsimp only at hSw); go_simp; (try with_reducible rfl); (try omega))
    simp only [List.setIfInBounds_toArray, List.set_cons_zero, List.set_cons_succ]
    refine held_take (v := ?v337) 36 rfl (by kernel_rfl) (by kernel_rfl) (by kernel_rfl) (fun _ _ _ h => h) (by rfl) ?y337 (by assumption) ?_
    case y337 => (intro w hSw; (try dsimp only at hSw); go_simp; (try with_reducible rfl); (try omega))
    simp only [List.setIfInBounds_toArray, List.set_cons_zero, List.set_cons_succ]
    refine held_take (v := ?v340) 37 rfl (by kernel_rfl) (by kernel_rfl) (by kernel_rfl) (fun _ _ _ h => h) (by rfl) ?y340 (by assumption) ?_
    case y340 => (intro w hSw; (try dsimp only at hSw); go_simp; (try with_reducible rfl); (try omega))
    simp only [List.setIfInBounds_toArray, List.set_cons_zero, List.set_cons_succ]
    refine wpAnyH_done (by kernel_rfl) ?_ _
    refine NoPanic.normal ?_
    have hg12 := (HSt.out _ g12).2.1
    have hq12 := (g12.block w8.heap.size (Array.getElem?_eq_some_iff.1 HQ9.out).1).trans HQ9.out
    have e12 := below_up E9.out g12 E9.out.size
    have cc6 : w12.cell? ⟨w.heap.size, 6, none⟩ = some (.int .u8 tt) := (hdr_cell hg12 6).trans HCl.out
    have fz6 : w12.frozen? ⟨w.heap.size, 6, none⟩ = false := frozen_of_row w12 w.heap.size 6 _ _ hg12
    have HG13 := Lib.hid (hdr_set hg12 6 _ HS6.out)
    have HQ13 := Lib.hid ((Below.heap_setCell w12 ⟨w.heap.size, 6, none⟩ (.int .u8 ((tt + 1) % 256)) _ HNE.out).trans hq12)
    have E13 := Lib.hid (e12.setCell (p := ⟨w.heap.size, 6, none⟩) (Nat.le_refl _) (.int .u8 ((tt + 1) % 256)))
    clear hHeld14 hg12 hq12 e12 g12 b12 i12 i10 g10 HSt I9 J9 E9 HG9 HQ9
    go_wp2_with (first | (refine wpList_load_hdrG rfl (.tmp 14) rfl w8.heap.size H2 rfl HQ13.out ?_) | (refine wpList_load_hdrG rfl (.tmp 3) rfl w.heap.size H2 rfl HG13.out ?_) | (refine wpList_eql_hdrG rfl 114 115 _ rfl H2 rfl rfl ?_))
    go_ret
    exact ⟨rfl, E13.out⟩
  · have hp := hP l1 rfl
    have hC1 := putC4_small h l1.length hl1 hC
    have HP0 := Lib.hid (fun W (i : IsB W (.slice a1 l1.length c1) l1) => put4_any h a1 l1.length c1 l1 W hid i (by omega))
    rw [hp, hC1] at HP0
    clear hP hp hC hC1
    generalize h.opt.length = M at *
    go_enter Try.func6, Try.ntmps6
    go_wp2_with (go_at_call 9; refine HA.out.mono ?_; rintro e w1 ⟨rfl, b1⟩; refine Hid.out ?_)
    refine Lib.hid ?_
    obtain ⟨hg1, d16, e1⟩ := HC.out _ b1
    have HG1 := Lib.hid hg1
    have B1 := Lib.hid b1
    have I1 := Lib.hid (F1.out.below e1)
    clear b1 hg1 e1
    go_wp2_with (first | (refine wpList_load_hdr rfl (.tmp 3) rfl w.heap.size h rfl HG1.out ?_) | (go_at_call 14; refine (HP0.out _ I1.out).mono ?_; rintro e w2 ⟨⟨a3, n3, c3, rfl, i2⟩, b2⟩; refine Hid.out ?_))
    refine Lib.hid ?_
    obtain ⟨hq, -⟩ := i2.cells
    have hq2 : n3 = 0 := hq
    subst hq2
    have B2 := Lib.hid (HC.out _ (below_up B1.out b2 B1.out.size)).2.2
    clear b2 i2 hq
    go_wp2
    go_ret
    exact ⟨rfl, B2.out⟩
end Go.Proofs.Ytchkbdgoghcgcaa

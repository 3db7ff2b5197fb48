/- slices.Insert at blocks and at spans: in place where there is room, in a new row where not. -/
import Derived.Test.YtgelbeglffjdaaaRws
import Derived.Test.YtgelbeglffjdaaaSp1
import Derived.Test.YtgelbeglffjdaaaPM11
import Derived.Shelf.RegionOpenPlain
namespace Go.Proofs.Ytgelbeglffjdaaa
open Go Go.RowKit Go.Shelf Go.Lib
attribute [local go_sem] Oper.semAt_some

def bR (b : Blk) : List Value := [.int .i64 b.s.f, .int .i64 b.s.l, .int .i64 b.o, .int .i64 b.a]
def bV (b : Blk) : Value := .agg (bR b).toArray
theorem bR_all (l : List Blk) : ∀ x ∈ l, (bR x).length = 4 := fun _ _ => rfl
theorem bR_one (b : Blk) : ∀ v ∈ bR b, v.oneCell' = true := by
  intro v h
  simp only [bR, List.mem_cons, List.not_mem_nil, or_false] at h
  rcases h with rfl | rfl | rfl | rfl <;> rfl
theorem shape_bx {w : World} {g : Nat} {e : TypeId} {l : List Value} (h : Bx w g e l) : w.shape? g = some (e, l.length) := by
  unfold World.shape?
  rw [show w.heap[g]? = _ from h]
  simp

/-! slices.Insert at blocks. -/
theorem blk_inf12 : (Try.prog.info? 47).map (fun i => (i.zero, i.size, i.bytes)) = some (some (bV ⟨⟨0, 0⟩, 0, 0⟩), 4, 32) := by kernel_rfl
theorem blk_size (w : World) : (sizeOf 47).run Try.prog w = .ok 4 w := by go_simp
theorem blk_ov (a b : Addr) (la ca lb cb : Nat) (w : World) (ca1 cb1 : List Value) (ea eb : TypeId) (ha : Bx w a.block ea ca1) (hb : Bx w b.block eb cb1) (hpa : a.spot = none) (hne : a.block ≠ b.block) (hk : cb1.length ≠ 0) :
    (callFunc 104 #[.slice (some a) la ca, .slice (some b) lb cb]).run Try.prog w = .ok (.value (.bool false)) w := by
  obtain ⟨ab, ao, asp⟩ := a
  simp only at hpa ha hne
  subst hpa
  have hov := Lib.run_overlaps_apart (P := Try.prog) w 44 4 47 Try.underlying44 4 blk_size ⟨ab, ao, none⟩ b la ca lb cb hne ea eb ca1.length cb1.length (shape_bx ha) (shape_bx hb) hk (ha.frozen ao) (ha.frozen _)
  rw [run_callFunc_extern Try.func104 (by kernel_rfl) (by kernel_rfl) (by kernel_rfl) (e := Extern.SlicesOverlaps.overlaps #[44, 44] #[4]) (by kernel_rfl), hov]
  rfl
set_option maxRecDepth 100000 in
set_option maxHeartbeats 4000000 in
theorem ins_blk (v : Value) (n : Nat) (xs : List Value) (i : Nat) (u : Value) (m : Nat) (nws : List Value) (base b2 : Nat) (w : World) (hown : w.ownsRow base 47 4 v n xs) (hu : w.ownsRow b2 47 4 u m nws)
    (hne : ∀ k, v.ownBlock = some k → u.ownBlock ≠ some k) (hi : i ≤ n) (hm : 0 < m) (hnm : n + m ≤ 1000000) (h1 : ∀ x ∈ nws, x.oneCell' = true) (h1x : ∀ x ∈ xs, x.oneCell' = true) (hbase : base ≤ w.heap.size) :
    Calls Try.prog 82 #[v, .int .i64 i, u] w fun e w' => ∃ v', e = .returned v' ∧ RowTo w w' base 47 4 v v' (n + m) (xs.take (i * 4) ++ nws ++ xs.drop (i * 4)) := by
  obtain ⟨ug, ucap, ucur, rfl, _, hU, hun⟩ := own_open hu hm
  obtain ⟨ti, hti, htz, hts, htb⟩ := info_parts blk_inf12
  have hnl := hu.1
  have hnu : ∀ j x, nws[j]? = some x → w.cell? ((⟨ug, 0, none⟩ : Addr).add j) = some x := Bx.at hU.bx 0 nws (by rw [List.drop_zero, hnl]; exact hun)
  have mixed : Try.prog.follows .mixedOrders = true := by kernel_rfl
  have hz1 : ¬ ((m : Int) = 0) := by omega
  have hucap : ucap ≤ 9223372036854775807 := by have := hU.max; unfold maxLen at this; omega
  by_cases hin : i = n
  · subst hin
    have hxl := hown.1
    obtain ⟨v', w', hr, hto⟩ := run_append_to (P := Try.prog) (w := w) 44 ti _ Try.underlying44 hti htz hts rfl (by decide) hown ⟨ug, 0, none⟩ m ucap hm nws hnl hnu h1 (by omega) (by rw [htb]; decide) hbase
    rw [List.take_of_length_le (by omega), List.drop_eq_nil_of_le (by omega), List.append_nil]
    have HR := Lib.hid hr
    have HT := Lib.hid hto
    have hsl : ∃ a c, v = .slice a i c ∧ i ≤ c ∧ c ≤ 9223372036854775807 ∧ (a = none ∨ ∃ g, a = some ⟨g, 0, none⟩) := by
      rcases hown.2 with ⟨h, h0⟩ | ⟨g, cap, cur, h, _, _, h2, h3, _⟩
      · exact ⟨none, 0, by rw [h, h0], by omega, by omega, .inl rfl⟩
      · exact ⟨some ⟨g, 0, none⟩, cap, h, h2, by unfold maxLen at h3; omega, .inr ⟨g, rfl⟩⟩
    obtain ⟨a, c, rfl, hic, hcm, ha⟩ := hsl
    clear hown hu hU hun hne hnl hnu h1 h1x hr hto hti htz hts htb hxl
    rcases ha with rfl | ⟨g, rfl⟩
    · go_enter Try.func82, Try.ntmps82
      go_wp2_with (at_builtin; refine plV rfl _ (exec_append _ _ 44 44 rfl _ _ rfl rfl (HR.out _)) ?_)
      go_ret
      exact ⟨_, rfl, HT.out⟩
    · rcases Nat.eq_or_lt_of_le hic with rfl | hic2
      · go_enter Try.func82, Try.ntmps82
        go_wp2_with (at_builtin; refine plV rfl _ (exec_append _ _ 44 44 rfl _ _ rfl rfl (HR.out _)) ?_)
        go_ret
        exact ⟨_, rfl, HT.out⟩
      · have hci : ¬ (c = i) := by omega
        go_enter Try.func82, Try.ntmps82
        go_wp2_with (at_builtin; refine plV rfl _ (exec_append _ _ 44 44 rfl _ _ rfl rfl (HR.out _)) ?_)
        go_ret
        exact ⟨_, rfl, HT.out⟩
  · have hlt : i < n := by omega
    obtain ⟨g, cap, cur, rfl, hbg, hR, hx⟩ := own_open hown (by omega)
    have hgu : g ≠ ug := fun e => hne g rfl (by rw [e]; rfl)
    have hfit := hR.fit
    have hcm : cap ≤ 9223372036854775807 := by have := hR.max; unfold maxLen at this; omega
    have hxl := hown.1
    have hcl := hR.len
    have hul := hU.len
    have hufit := hU.fit
    have hYl : ((cur.take (n * 4)).drop (i * 4)).length = (n - i) * 4 := by rw [List.length_drop, List.length_take]; omega
    have h1c : ∀ x ∈ (cur.take (n * 4)).drop (i * 4), x.oneCell' = true := fun x hx2 => h1x x (by rw [← hx]; exact List.mem_of_mem_drop hx2)
    have hni : ¬ ((i : Int) = (n : Int)) := by omega
    have hb3 : ¬ (cap = i) := by omega
    have k1 : IntKind.i64.wrap ((i : Int) + (m : Int)) = ((i + m : Nat) : Int) := by rw [IntKind.wrap_i64]; omega
    have k2 : IntKind.i64.wrap ((n : Int) + (m : Int)) = ((n + m : Nat) : Int) := by rw [IntKind.wrap_i64]; omega
    have k3 : IntKind.i64.wrap (((n + m : Nat) : Int) - (i : Int)) = ((n + m - i : Nat) : Int) := by rw [IntKind.wrap_i64]; omega
    by_cases hroom : n + m ≤ cap
    · -- in place
      obtain ⟨W0, hW0⟩ : ∃ W0, W0 = w.drew := ⟨_, rfl⟩
      have hB0 : Bx W0 g 47 cur := hW0 ▸ hR.bx
      have hcp1 : ∀ ty off dl dc so sl sc, off = (i + m) * 4 → dl = n - i → so = i * 4 → n - i ≤ sl → (Builtin.copy_ #[44, 44] ty #[.slice (some ⟨g, off, none⟩) dl dc, .slice (some ⟨g, so, none⟩) sl sc]).run Try.prog W0 = .ok (goInt ((n - i : Nat) : Int)) (W0.setRow g (splice cur ((i + m) * 4) ((cur.take (n * 4)).drop (i * 4))).toArray) := by
        intro ty off dl dc so sl sc e1 e2 e3 e4
        subst e1 e2 e3
        exact run_copy_row 44 44 ty Try.underlying44 blk_size hB0 _ _ _ _ _ _ (n - i) (Nat.min_eq_right e4) _ hYl (fun _ => ⟨_, rfl, Bx.at hB0 _ _ (by rw [hYl, List.drop_take]; congr 1; omega)⟩) h1c (by rw [hYl]; omega)
      obtain ⟨L1, hL1⟩ : ∃ L1, L1 = splice cur ((i + m) * 4) ((cur.take (n * 4)).drop (i * 4)) := ⟨_, rfl⟩
      have hL1l : L1.length = cur.length := by rw [hL1]; exact splice_len _ _ _ (by rw [hYl]; omega)
      rw [← hL1] at hcp1
      obtain ⟨W1, hW1⟩ : ∃ W1, W1 = W0.setRow g L1.toArray := ⟨_, rfl⟩
      have hB1 : Bx W1 g 47 L1 := hW1 ▸ hB0.row L1
      have hU1 : Bx W1 ug 47 ucur := by rw [hW1]; exact Bx.rowOther (hW0 ▸ hU.bx) (fun e => hgu e.symm) _
      have hcp2 : ∀ ty off dl dc sc, off = i * 4 → m ≤ dl → (Builtin.copy_ #[44, 44] ty #[.slice (some ⟨g, off, none⟩) dl dc, .slice (some ⟨ug, 0, none⟩) m sc]).run Try.prog W1 = .ok (goInt (m : Int)) (W1.setRow g (splice L1 (i * 4) nws).toArray) := by
        intro ty off dl dc sc e1 e2
        subst e1
        exact run_copy_row 44 44 ty Try.underlying44 blk_size hB1 _ _ _ _ _ _ m (Nat.min_eq_left e2) _ hnl (fun _ => ⟨_, rfl, Bx.at hU1 0 nws (by rw [List.drop_zero, hnl]; exact hun)⟩) h1 (by rw [hnl, hL1l]; omega)
      rw [← hW1] at hcp1
      obtain ⟨W2, hW2⟩ : ∃ W2, W2 = W1.setRow g (splice L1 (i * 4) nws).toArray := ⟨_, rfl⟩
      rw [← hW2] at hcp2
      have hto : RowTo w W2 base 47 4 (.slice (some ⟨g, 0, none⟩) n cap) (.slice (some ⟨g, 0, none⟩) (n + m) cap) (n + m) (xs.take (i * 4) ++ nws ++ xs.drop (i * 4)) := by
        refine ⟨?_, ?_, fun k hk => .inl hk⟩
        · have hl2 : (splice L1 (i * 4) nws).length = cur.length := by rw [splice_len _ _ _ (by rw [hnl, hL1l]; omega), hL1l]
          have hR2 : RwI W2 47 4 g (n + m) cap (splice L1 (i * 4) nws) := ⟨hW2 ▸ hB1.row _, hroom, hR.max, by rw [hl2, hcl]⟩
          refine hR2.shut hbg ?_
          have h9 := splice_up cur nws ((cur.take (n * 4)).drop (i * 4)) (i * 4) (m * 4) hnl (by rw [hYl]; omega)
          rw [hYl, show i * 4 + m * 4 = (i + m) * 4 by omega, ← hL1, show (i + m) * 4 + (n - i) * 4 = (n + m) * 4 by omega] at h9
          rw [h9, hx, ← hx, List.take_take, Nat.min_eq_left (by omega)]
        · rw [hW2, hW1, hW0]
          exact KpO.dr (KpO.trans (kp_row _ _ _ rfl) (kp_row _ _ _ rfl) : KpO (fun k => (Value.slice (some ⟨g, 0, none⟩) n cap).ownBlock = some k) w.drew _)
      have hov : ∀ k lb cb, (callFunc 104 #[.slice (some ⟨ug, 0, none⟩) m ucap, .slice (some ⟨g, k, none⟩) lb cb]).run Try.prog w = .ok (.value (.bool false)) w := fun k lb cb =>
        blk_ov ⟨ug, 0, none⟩ ⟨g, k, none⟩ _ _ _ _ w _ _ _ _ hU.bx hR.bx rfl (fun e => hgu e.symm) (by rw [hcl]; omega)
      have hb2 : ¬ (cap = i + m) := by omega
      have hrm : ¬ ((cap : Int) < ((n + m : Nat) : Int)) := by omega
      have t1 : ((i + m : Nat) : Int).toNat = i + m := by omega
      have t2 : ((n + m : Nat) : Int).toNat = n + m := by omega
      have q1 : ((i + m : Nat) : Int) ≤ ((n + m : Nat) : Int) := by omega
      have q2 : ((n + m : Nat) : Int) ≤ (cap : Int) := by omega
      have q3 : (i : Int) ≤ (n : Int) := by omega
      have q4 : (i : Int) ≤ ((n + m : Nat) : Int) := by omega
      have q5 : (0 : Int) ≤ ((i + m : Nat) : Int) := by omega
      have q6 : (0 : Int) ≤ ((n + m : Nat) : Int) := by omega
      have hnn : i < n + m := by omega
      rw [hW0] at hcp1
      have HCP1 := Lib.hid hcp1
      have HCP2 := Lib.hid hcp2
      have HT := Lib.hid hto
      clear hown hu hne hU hun hR hx hxl hcl hul hufit hYl h1c h1 h1x hnl hnu hti htz hts htb hcp1 hcp2 hto hB0 hB1 hU1 hL1 hL1l hW1 hW2
      generalize hnmE : n + m = nm at *
      generalize himE : i + m = im at *
      go_enter Try.func82, Try.ntmps82
      go_wp2_with (simp only [hov])
      go_region_law_o (refine step_exec rfl _ (exec_copy _ _ 44 44 rfl (.slice (some ⟨g, im * 4, none⟩) (nm - im) (cap - im)) (.slice (some ⟨g, i * 4, none⟩) (nm - i) (cap - i)) (by simp [Act.eval, Act.put]) (by simp [Act.eval, Act.put]) (HCP1.out _ _ _ _ _ _ _ (by omega) (by omega) (by omega) (by omega))) ?_)
      go_wp2_with (refine plV rfl _ (exec_copy _ _ 44 44 rfl (.slice (some ⟨g, i * 4, none⟩) (nm - i) (cap - i)) (.slice (some ⟨ug, 0, none⟩) m ucap) rfl rfl (HCP2.out _ _ _ _ _ (by omega) (by omega))) ?_)
      go_ret
      exact ⟨_, rfl, HT.out⟩
    · -- a new row
      obtain ⟨cap', cur', W1, hz, hRn, htk, hbl⟩ := run_zeros_to (P := Try.prog) (w := w) 44 3 .i64 ti _ Try.underlying44 Try.underlying3 hti htz hts rfl (by decide) hR i (n + m) hi (by omega) (by omega) (by omega) (by rw [htb]; decide)
      obtain ⟨G, hG⟩ : ∃ G, G = w.heap.size := ⟨_, rfl⟩
      have hgG : g ≠ G := fun e => by have := hR.bx.lt; omega
      have huG : ug ≠ G := fun e => by have := hU.bx.lt; omega
      rw [← hG] at hz hRn
      have hB1 : Bx W1 G 47 cur' := hRn.bx
      have hU1 : Bx W1 ug 47 ucur := hU.bx.up hbl
      have hO1 : Bx W1 g 47 cur := hR.bx.up hbl
      have hcl' := hRn.len
      have hfit' := hRn.fit
      have hcm' : cap' ≤ 9223372036854775807 := by have := hRn.max; unfold maxLen at this; omega
      have hcp1 : ∀ ty off dl dc sc, off = i * 4 → m ≤ dl → (Builtin.copy_ #[44, 44] ty #[.slice (some ⟨G, off, none⟩) dl dc, .slice (some ⟨ug, 0, none⟩) m sc]).run Try.prog W1 = .ok (goInt (m : Int)) (W1.setRow G (splice cur' (i * 4) nws).toArray) := by
        intro ty off dl dc sc e1 e2
        subst e1
        exact run_copy_row 44 44 ty Try.underlying44 blk_size hB1 _ _ _ _ _ _ m (Nat.min_eq_left e2) _ hnl (fun _ => ⟨_, rfl, Bx.at hU1 0 nws (by rw [List.drop_zero, hnl]; exact hun)⟩) h1 (by rw [hnl, hcl']; omega)
      obtain ⟨L1, hL1⟩ : ∃ L1, L1 = splice cur' (i * 4) nws := ⟨_, rfl⟩
      have hL1l : L1.length = cur'.length := by rw [hL1]; exact splice_len _ _ _ (by rw [hnl, hcl']; omega)
      rw [← hL1] at hcp1
      obtain ⟨W2, hW2⟩ : ∃ W2, W2 = W1.setRow G L1.toArray := ⟨_, rfl⟩
      rw [← hW2] at hcp1
      obtain ⟨W2d, hW2d⟩ : ∃ W2d, W2d = W2.drew := ⟨_, rfl⟩
      have hB2 : Bx W2d G 47 L1 := by rw [hW2d, hW2]; exact hB1.row L1
      have hO2 : Bx W2d g 47 cur := by rw [hW2d, hW2]; exact hO1.rowOther hgG _
      have hcp2 : ∀ ty off dl dc so sc, off = (i + m) * 4 → n - i ≤ dl → so = i * 4 → (Builtin.copy_ #[44, 44] ty #[.slice (some ⟨G, off, none⟩) dl dc, .slice (some ⟨g, so, none⟩) (n - i) sc]).run Try.prog W2d = .ok (goInt ((n - i : Nat) : Int)) (W2d.setRow G (splice L1 ((i + m) * 4) ((cur.take (n * 4)).drop (i * 4))).toArray) := by
        intro ty off dl dc so sc e1 e2 e3
        subst e1 e3
        exact run_copy_row 44 44 ty Try.underlying44 blk_size hB2 _ _ _ _ _ _ (n - i) (Nat.min_eq_left e2) _ hYl (fun _ => ⟨_, rfl, Bx.at hO2 _ _ (by rw [hYl, List.drop_take]; congr 1; omega)⟩) h1c (by rw [hYl, hL1l, hcl']; omega)
      obtain ⟨W3, hW3⟩ : ∃ W3, W3 = W2d.setRow G (splice L1 ((i + m) * 4) ((cur.take (n * 4)).drop (i * 4))).toArray := ⟨_, rfl⟩
      rw [← hW3] at hcp2
      have hto : RowTo w W3 base 47 4 (.slice (some ⟨g, 0, none⟩) n cap) (.slice (some ⟨G, 0, none⟩) (n + m) cap') (n + m) (xs.take (i * 4) ++ nws ++ xs.drop (i * 4)) := by
        refine ⟨?_, ?_, fun k hk => .inr (by cases hk; exact Nat.le_of_eq hG.symm)⟩
        · have hl2 : (splice L1 ((i + m) * 4) ((cur.take (n * 4)).drop (i * 4))).length = cur'.length := by rw [splice_len _ _ _ (by rw [hYl, hL1l, hcl']; omega), hL1l]
          have hR2 : RwI W3 47 4 G (n + m) cap' (splice L1 ((i + m) * 4) ((cur.take (n * 4)).drop (i * 4))) := ⟨hW3 ▸ hB2.row _, hfit', hRn.max, by rw [hl2, hcl']⟩
          refine hR2.shut (by omega) ?_
          have h9 := splice_down cur' nws ((cur.take (n * 4)).drop (i * 4)) (i * 4) (m * 4) hnl (by rw [hYl, hcl']; omega)
          rw [hYl, show i * 4 + m * 4 = (i + m) * 4 by omega, ← hL1, show (i + m) * 4 + (n - i) * 4 = (n + m) * 4 by omega] at h9
          rw [h9, hx, htk, ← hx, List.take_take, Nat.min_eq_left (by omega)]
        · refine KpO.below ?_
          rw [hW3, hW2d, hW2]
          exact below_row (below_row hbl (by omega) _).drew (by omega) _
      have hb2 : ¬ (cap' = i + m) := by omega
      have hb4 : ¬ (cap' = i) := by omega
      have hrm : (cap : Int) < ((n + m : Nat) : Int) := by omega
      have t1 : ((i + m : Nat) : Int).toNat = i + m := by omega
      have t2 : ((n + m : Nat) : Int).toNat = n + m := by omega
      have q1 : ((i + m : Nat) : Int) ≤ ((n + m : Nat) : Int) := by omega
      have q2 : (i : Int) ≤ (cap : Int) := by omega
      have q3 : (i : Int) ≤ (n : Int) := by omega
      have q4 : (i : Int) ≤ ((n + m : Nat) : Int) := by omega
      have q5 : (0 : Int) ≤ ((i + m : Nat) : Int) := by omega
      have q6 : (0 : Int) ≤ ((n + m : Nat) : Int) := by omega
      have hnn : i < n + m := by omega
      rw [hW2d] at hcp2
      have HZ := Lib.hid hz
      have HCP1 := Lib.hid hcp1
      have HCP2 := Lib.hid hcp2
      have HT := Lib.hid hto
      clear hown hu hne hU hun hR hx hxl hcl hul hufit hYl h1c h1 h1x hnl hnu hti htz hts htb hcp1 hcp2 hto hB1 hU1 hL1 hL1l hz hRn htk hbl hcl' hO1 hO2 hB2 hW2 hW2d hW3 hG
      generalize hnmE : n + m = nm at *
      generalize himE : i + m = im at *
      go_enter Try.func82, Try.ntmps82
      go_wp2_with (first
        | (at_builtin; refine plV rfl _ (exec_append _ _ 44 3 rfl _ _ rfl rfl (HZ.out _)) ?_)
        | (refine plV rfl _ (exec_copy _ _ 44 44 rfl (.slice (some ⟨G, i * 4, none⟩) (nm - i) (cap' - i)) (.slice (some ⟨ug, 0, none⟩) m ucap) rfl rfl (HCP1.out _ _ _ _ _ (by omega) (by omega))) ?_))
      go_region_law_o (refine step_exec rfl _ (exec_copy _ _ 44 44 rfl (.slice (some ⟨G, im * 4, none⟩) (nm - im) (cap' - im)) (.slice (some ⟨g, i * 4, none⟩) (n - i) (cap - i)) (by simp [Act.eval, Act.put]) (by simp [Act.eval, Act.put]) (HCP2.out _ _ _ _ _ _ (by omega) (by omega) (by omega))) ?_)
      go_wp2
      go_ret
      exact ⟨_, rfl, HT.out⟩

/-! slices.Insert at spans. -/
theorem sp_inf12 : (Try.prog.info? 27).map (fun i => (i.zero, i.size, i.bytes)) = some (some (sV ⟨0, 0⟩), 2, 16) := by kernel_rfl
theorem sp_size (w : World) : (sizeOf 27).run Try.prog w = .ok 2 w := by go_simp
theorem sp_ov (a b : Addr) (la ca lb cb : Nat) (w : World) (ca1 cb1 : List Value) (ea eb : TypeId) (ha : Bx w a.block ea ca1) (hb : Bx w b.block eb cb1) (hpa : a.spot = none) (hne : a.block ≠ b.block) (hk : cb1.length ≠ 0) :
    (callFunc 107 #[.slice (some a) la ca, .slice (some b) lb cb]).run Try.prog w = .ok (.value (.bool false)) w := by
  obtain ⟨ab, ao, asp⟩ := a
  simp only at hpa ha hne
  subst hpa
  have hov := Lib.run_overlaps_apart (P := Try.prog) w 51 4 27 Try.underlying51 2 sp_size ⟨ab, ao, none⟩ b la ca lb cb hne ea eb ca1.length cb1.length (shape_bx ha) (shape_bx hb) hk (ha.frozen ao) (ha.frozen _)
  rw [run_callFunc_extern Try.func107 (by kernel_rfl) (by kernel_rfl) (by kernel_rfl) (e := Extern.SlicesOverlaps.overlaps #[51, 51] #[4]) (by kernel_rfl), hov]
  rfl
set_option maxRecDepth 100000 in
set_option maxHeartbeats 4000000 in
theorem ins_sp (v : Value) (n : Nat) (xs : List Value) (i : Nat) (u : Value) (m : Nat) (nws : List Value) (base b2 : Nat) (w : World) (hown : w.ownsRow base 27 2 v n xs) (hu : w.ownsRow b2 27 2 u m nws)
    (hne : ∀ k, v.ownBlock = some k → u.ownBlock ≠ some k) (hi : i ≤ n) (hm : 0 < m) (hnm : n + m ≤ 1000000) (h1 : ∀ x ∈ nws, x.oneCell' = true) (h1x : ∀ x ∈ xs, x.oneCell' = true) (hbase : base ≤ w.heap.size) :
    Calls Try.prog 106 #[v, .int .i64 i, u] w fun e w' => ∃ v', e = .returned v' ∧ RowTo w w' base 27 2 v v' (n + m) (xs.take (i * 2) ++ nws ++ xs.drop (i * 2)) := by
  obtain ⟨ug, ucap, ucur, rfl, _, hU, hun⟩ := own_open hu hm
  obtain ⟨ti, hti, htz, hts, htb⟩ := info_parts sp_inf12
  have hnl := hu.1
  have hnu : ∀ j x, nws[j]? = some x → w.cell? ((⟨ug, 0, none⟩ : Addr).add j) = some x := Bx.at hU.bx 0 nws (by rw [List.drop_zero, hnl]; exact hun)
  have mixed : Try.prog.follows .mixedOrders = true := by kernel_rfl
  have hz1 : ¬ ((m : Int) = 0) := by omega
  have hucap : ucap ≤ 9223372036854775807 := by have := hU.max; unfold maxLen at this; omega
  by_cases hin : i = n
  · subst hin
    have hxl := hown.1
    obtain ⟨v', w', hr, hto⟩ := run_append_to (P := Try.prog) (w := w) 51 ti _ Try.underlying51 hti htz hts rfl (by decide) hown ⟨ug, 0, none⟩ m ucap hm nws hnl hnu h1 (by omega) (by rw [htb]; decide) hbase
    rw [List.take_of_length_le (by omega), List.drop_eq_nil_of_le (by omega), List.append_nil]
    have HR := Lib.hid hr
    have HT := Lib.hid hto
    have hsl : ∃ a c, v = .slice a i c ∧ i ≤ c ∧ c ≤ 9223372036854775807 ∧ (a = none ∨ ∃ g, a = some ⟨g, 0, none⟩) := by
      rcases hown.2 with ⟨h, h0⟩ | ⟨g, cap, cur, h, _, _, h2, h3, _⟩
      · exact ⟨none, 0, by rw [h, h0], by omega, by omega, .inl rfl⟩
      · exact ⟨some ⟨g, 0, none⟩, cap, h, h2, by unfold maxLen at h3; omega, .inr ⟨g, rfl⟩⟩
    obtain ⟨a, c, rfl, hic, hcm, ha⟩ := hsl
    clear hown hu hU hun hne hnl hnu h1 h1x hr hto hti htz hts htb hxl
    rcases ha with rfl | ⟨g, rfl⟩
    · go_enter Try.func106, Try.ntmps106
      go_wp2_with (at_builtin; refine plV rfl _ (exec_append _ _ 51 51 rfl _ _ rfl rfl (HR.out _)) ?_)
      go_ret
      exact ⟨_, rfl, HT.out⟩
    · rcases Nat.eq_or_lt_of_le hic with rfl | hic2
      · go_enter Try.func106, Try.ntmps106
        go_wp2_with (at_builtin; refine plV rfl _ (exec_append _ _ 51 51 rfl _ _ rfl rfl (HR.out _)) ?_)
        go_ret
        exact ⟨_, rfl, HT.out⟩
      · have hci : ¬ (c = i) := by omega
        go_enter Try.func106, Try.ntmps106
        go_wp2_with (at_builtin; refine plV rfl _ (exec_append _ _ 51 51 rfl _ _ rfl rfl (HR.out _)) ?_)
        go_ret
        exact ⟨_, rfl, HT.out⟩
  · have hlt : i < n := by omega
    obtain ⟨g, cap, cur, rfl, hbg, hR, hx⟩ := own_open hown (by omega)
    have hgu : g ≠ ug := fun e => hne g rfl (by rw [e]; rfl)
    have hfit := hR.fit
    have hcm : cap ≤ 9223372036854775807 := by have := hR.max; unfold maxLen at this; omega
    have hxl := hown.1
    have hcl := hR.len
    have hul := hU.len
    have hufit := hU.fit
    have hYl : ((cur.take (n * 2)).drop (i * 2)).length = (n - i) * 2 := by rw [List.length_drop, List.length_take]; omega
    have h1c : ∀ x ∈ (cur.take (n * 2)).drop (i * 2), x.oneCell' = true := fun x hx2 => h1x x (by rw [← hx]; exact List.mem_of_mem_drop hx2)
    have hni : ¬ ((i : Int) = (n : Int)) := by omega
    have hb3 : ¬ (cap = i) := by omega
    have k1 : IntKind.i64.wrap ((i : Int) + (m : Int)) = ((i + m : Nat) : Int) := by rw [IntKind.wrap_i64]; omega
    have k2 : IntKind.i64.wrap ((n : Int) + (m : Int)) = ((n + m : Nat) : Int) := by rw [IntKind.wrap_i64]; omega
    have k3 : IntKind.i64.wrap (((n + m : Nat) : Int) - (i : Int)) = ((n + m - i : Nat) : Int) := by rw [IntKind.wrap_i64]; omega
    by_cases hroom : n + m ≤ cap
    · -- in place
      obtain ⟨W0, hW0⟩ : ∃ W0, W0 = w.drew := ⟨_, rfl⟩
      have hB0 : Bx W0 g 27 cur := hW0 ▸ hR.bx
      have hcp1 : ∀ ty off dl dc so sl sc, off = (i + m) * 2 → dl = n - i → so = i * 2 → n - i ≤ sl → (Builtin.copy_ #[51, 51] ty #[.slice (some ⟨g, off, none⟩) dl dc, .slice (some ⟨g, so, none⟩) sl sc]).run Try.prog W0 = .ok (goInt ((n - i : Nat) : Int)) (W0.setRow g (splice cur ((i + m) * 2) ((cur.take (n * 2)).drop (i * 2))).toArray) := by
        intro ty off dl dc so sl sc e1 e2 e3 e4
        subst e1 e2 e3
        exact run_copy_row 51 51 ty Try.underlying51 sp_size hB0 _ _ _ _ _ _ (n - i) (Nat.min_eq_right e4) _ hYl (fun _ => ⟨_, rfl, Bx.at hB0 _ _ (by rw [hYl, List.drop_take]; congr 1; omega)⟩) h1c (by rw [hYl]; omega)
      obtain ⟨L1, hL1⟩ : ∃ L1, L1 = splice cur ((i + m) * 2) ((cur.take (n * 2)).drop (i * 2)) := ⟨_, rfl⟩
      have hL1l : L1.length = cur.length := by rw [hL1]; exact splice_len _ _ _ (by rw [hYl]; omega)
      rw [← hL1] at hcp1
      obtain ⟨W1, hW1⟩ : ∃ W1, W1 = W0.setRow g L1.toArray := ⟨_, rfl⟩
      have hB1 : Bx W1 g 27 L1 := hW1 ▸ hB0.row L1
      have hU1 : Bx W1 ug 27 ucur := by rw [hW1]; exact Bx.rowOther (hW0 ▸ hU.bx) (fun e => hgu e.symm) _
      have hcp2 : ∀ ty off dl dc sc, off = i * 2 → m ≤ dl → (Builtin.copy_ #[51, 51] ty #[.slice (some ⟨g, off, none⟩) dl dc, .slice (some ⟨ug, 0, none⟩) m sc]).run Try.prog W1 = .ok (goInt (m : Int)) (W1.setRow g (splice L1 (i * 2) nws).toArray) := by
        intro ty off dl dc sc e1 e2
        subst e1
        exact run_copy_row 51 51 ty Try.underlying51 sp_size hB1 _ _ _ _ _ _ m (Nat.min_eq_left e2) _ hnl (fun _ => ⟨_, rfl, Bx.at hU1 0 nws (by rw [List.drop_zero, hnl]; exact hun)⟩) h1 (by rw [hnl, hL1l]; omega)
      rw [← hW1] at hcp1
      obtain ⟨W2, hW2⟩ : ∃ W2, W2 = W1.setRow g (splice L1 (i * 2) nws).toArray := ⟨_, rfl⟩
      rw [← hW2] at hcp2
      have hto : RowTo w W2 base 27 2 (.slice (some ⟨g, 0, none⟩) n cap) (.slice (some ⟨g, 0, none⟩) (n + m) cap) (n + m) (xs.take (i * 2) ++ nws ++ xs.drop (i * 2)) := by
        refine ⟨?_, ?_, fun k hk => .inl hk⟩
        · have hl2 : (splice L1 (i * 2) nws).length = cur.length := by rw [splice_len _ _ _ (by rw [hnl, hL1l]; omega), hL1l]
          have hR2 : RwI W2 27 2 g (n + m) cap (splice L1 (i * 2) nws) := ⟨hW2 ▸ hB1.row _, hroom, hR.max, by rw [hl2, hcl]⟩
          refine hR2.shut hbg ?_
          have h9 := splice_up cur nws ((cur.take (n * 2)).drop (i * 2)) (i * 2) (m * 2) hnl (by rw [hYl]; omega)
          rw [hYl, show i * 2 + m * 2 = (i + m) * 2 by omega, ← hL1, show (i + m) * 2 + (n - i) * 2 = (n + m) * 2 by omega] at h9
          rw [h9, hx, ← hx, List.take_take, Nat.min_eq_left (by omega)]
        · rw [hW2, hW1, hW0]
          exact KpO.dr (KpO.trans (kp_row _ _ _ rfl) (kp_row _ _ _ rfl) : KpO (fun k => (Value.slice (some ⟨g, 0, none⟩) n cap).ownBlock = some k) w.drew _)
      have hov : ∀ k lb cb, (callFunc 107 #[.slice (some ⟨ug, 0, none⟩) m ucap, .slice (some ⟨g, k, none⟩) lb cb]).run Try.prog w = .ok (.value (.bool false)) w := fun k lb cb =>
        sp_ov ⟨ug, 0, none⟩ ⟨g, k, none⟩ _ _ _ _ w _ _ _ _ hU.bx hR.bx rfl (fun e => hgu e.symm) (by rw [hcl]; omega)
      have hb2 : ¬ (cap = i + m) := by omega
      have hrm : ¬ ((cap : Int) < ((n + m : Nat) : Int)) := by omega
      have t1 : ((i + m : Nat) : Int).toNat = i + m := by omega
      have t2 : ((n + m : Nat) : Int).toNat = n + m := by omega
      have q1 : ((i + m : Nat) : Int) ≤ ((n + m : Nat) : Int) := by omega
      have q2 : ((n + m : Nat) : Int) ≤ (cap : Int) := by omega
      have q3 : (i : Int) ≤ (n : Int) := by omega
      have q4 : (i : Int) ≤ ((n + m : Nat) : Int) := by omega
      have q5 : (0 : Int) ≤ ((i + m : Nat) : Int) := by omega
      have q6 : (0 : Int) ≤ ((n + m : Nat) : Int) := by omega
      have hnn : i < n + m := by omega
      rw [hW0] at hcp1
      have HCP1 := Lib.hid hcp1
      have HCP2 := Lib.hid hcp2
      have HT := Lib.hid hto
      clear hown hu hne hU hun hR hx hxl hcl hul hufit hYl h1c h1 h1x hnl hnu hti htz hts htb hcp1 hcp2 hto hB0 hB1 hU1 hL1 hL1l hW1 hW2
      generalize hnmE : n + m = nm at *
      generalize himE : i + m = im at *
      go_enter Try.func106, Try.ntmps106
      go_wp2_with (simp only [hov])
      go_region_law_o (refine step_exec rfl _ (exec_copy _ _ 51 51 rfl (.slice (some ⟨g, im * 2, none⟩) (nm - im) (cap - im)) (.slice (some ⟨g, i * 2, none⟩) (nm - i) (cap - i)) (by simp [Act.eval, Act.put]) (by simp [Act.eval, Act.put]) (HCP1.out _ _ _ _ _ _ _ (by omega) (by omega) (by omega) (by omega))) ?_)
      go_wp2_with (refine plV rfl _ (exec_copy _ _ 51 51 rfl (.slice (some ⟨g, i * 2, none⟩) (nm - i) (cap - i)) (.slice (some ⟨ug, 0, none⟩) m ucap) rfl rfl (HCP2.out _ _ _ _ _ (by omega) (by omega))) ?_)
      go_ret
      exact ⟨_, rfl, HT.out⟩
    · -- a new row
      obtain ⟨cap', cur', W1, hz, hRn, htk, hbl⟩ := run_zeros_to (P := Try.prog) (w := w) 51 3 .i64 ti _ Try.underlying51 Try.underlying3 hti htz hts rfl (by decide) hR i (n + m) hi (by omega) (by omega) (by omega) (by rw [htb]; decide)
      obtain ⟨G, hG⟩ : ∃ G, G = w.heap.size := ⟨_, rfl⟩
      have hgG : g ≠ G := fun e => by have := hR.bx.lt; omega
      have huG : ug ≠ G := fun e => by have := hU.bx.lt; omega
      rw [← hG] at hz hRn
      have hB1 : Bx W1 G 27 cur' := hRn.bx
      have hU1 : Bx W1 ug 27 ucur := hU.bx.up hbl
      have hO1 : Bx W1 g 27 cur := hR.bx.up hbl
      have hcl' := hRn.len
      have hfit' := hRn.fit
      have hcm' : cap' ≤ 9223372036854775807 := by have := hRn.max; unfold maxLen at this; omega
      have hcp1 : ∀ ty off dl dc sc, off = i * 2 → m ≤ dl → (Builtin.copy_ #[51, 51] ty #[.slice (some ⟨G, off, none⟩) dl dc, .slice (some ⟨ug, 0, none⟩) m sc]).run Try.prog W1 = .ok (goInt (m : Int)) (W1.setRow G (splice cur' (i * 2) nws).toArray) := by
        intro ty off dl dc sc e1 e2
        subst e1
        exact run_copy_row 51 51 ty Try.underlying51 sp_size hB1 _ _ _ _ _ _ m (Nat.min_eq_left e2) _ hnl (fun _ => ⟨_, rfl, Bx.at hU1 0 nws (by rw [List.drop_zero, hnl]; exact hun)⟩) h1 (by rw [hnl, hcl']; omega)
      obtain ⟨L1, hL1⟩ : ∃ L1, L1 = splice cur' (i * 2) nws := ⟨_, rfl⟩
      have hL1l : L1.length = cur'.length := by rw [hL1]; exact splice_len _ _ _ (by rw [hnl, hcl']; omega)
      rw [← hL1] at hcp1
      obtain ⟨W2, hW2⟩ : ∃ W2, W2 = W1.setRow G L1.toArray := ⟨_, rfl⟩
      rw [← hW2] at hcp1
      obtain ⟨W2d, hW2d⟩ : ∃ W2d, W2d = W2.drew := ⟨_, rfl⟩
      have hB2 : Bx W2d G 27 L1 := by rw [hW2d, hW2]; exact hB1.row L1
      have hO2 : Bx W2d g 27 cur := by rw [hW2d, hW2]; exact hO1.rowOther hgG _
      have hcp2 : ∀ ty off dl dc so sc, off = (i + m) * 2 → n - i ≤ dl → so = i * 2 → (Builtin.copy_ #[51, 51] ty #[.slice (some ⟨G, off, none⟩) dl dc, .slice (some ⟨g, so, none⟩) (n - i) sc]).run Try.prog W2d = .ok (goInt ((n - i : Nat) : Int)) (W2d.setRow G (splice L1 ((i + m) * 2) ((cur.take (n * 2)).drop (i * 2))).toArray) := by
        intro ty off dl dc so sc e1 e2 e3
        subst e1 e3
        exact run_copy_row 51 51 ty Try.underlying51 sp_size hB2 _ _ _ _ _ _ (n - i) (Nat.min_eq_left e2) _ hYl (fun _ => ⟨_, rfl, Bx.at hO2 _ _ (by rw [hYl, List.drop_take]; congr 1; omega)⟩) h1c (by rw [hYl, hL1l, hcl']; omega)
      obtain ⟨W3, hW3⟩ : ∃ W3, W3 = W2d.setRow G (splice L1 ((i + m) * 2) ((cur.take (n * 2)).drop (i * 2))).toArray := ⟨_, rfl⟩
      rw [← hW3] at hcp2
      have hto : RowTo w W3 base 27 2 (.slice (some ⟨g, 0, none⟩) n cap) (.slice (some ⟨G, 0, none⟩) (n + m) cap') (n + m) (xs.take (i * 2) ++ nws ++ xs.drop (i * 2)) := by
        refine ⟨?_, ?_, fun k hk => .inr (by cases hk; exact Nat.le_of_eq hG.symm)⟩
        · have hl2 : (splice L1 ((i + m) * 2) ((cur.take (n * 2)).drop (i * 2))).length = cur'.length := by rw [splice_len _ _ _ (by rw [hYl, hL1l, hcl']; omega), hL1l]
          have hR2 : RwI W3 27 2 G (n + m) cap' (splice L1 ((i + m) * 2) ((cur.take (n * 2)).drop (i * 2))) := ⟨hW3 ▸ hB2.row _, hfit', hRn.max, by rw [hl2, hcl']⟩
          refine hR2.shut (by omega) ?_
          have h9 := splice_down cur' nws ((cur.take (n * 2)).drop (i * 2)) (i * 2) (m * 2) hnl (by rw [hYl, hcl']; omega)
          rw [hYl, show i * 2 + m * 2 = (i + m) * 2 by omega, ← hL1, show (i + m) * 2 + (n - i) * 2 = (n + m) * 2 by omega] at h9
          rw [h9, hx, htk, ← hx, List.take_take, Nat.min_eq_left (by omega)]
        · refine KpO.below ?_
          rw [hW3, hW2d, hW2]
          exact below_row (below_row hbl (by omega) _).drew (by omega) _
      have hb2 : ¬ (cap' = i + m) := by omega
      have hb4 : ¬ (cap' = i) := by omega
      have hrm : (cap : Int) < ((n + m : Nat) : Int) := by omega
      have t1 : ((i + m : Nat) : Int).toNat = i + m := by omega
      have t2 : ((n + m : Nat) : Int).toNat = n + m := by omega
      have q1 : ((i + m : Nat) : Int) ≤ ((n + m : Nat) : Int) := by omega
      have q2 : (i : Int) ≤ (cap : Int) := by omega
      have q3 : (i : Int) ≤ (n : Int) := by omega
      have q4 : (i : Int) ≤ ((n + m : Nat) : Int) := by omega
      have q5 : (0 : Int) ≤ ((i + m : Nat) : Int) := by omega
      have q6 : (0 : Int) ≤ ((n + m : Nat) : Int) := by omega
      have hnn : i < n + m := by omega
      rw [hW2d] at hcp2
      have HZ := Lib.hid hz
      have HCP1 := Lib.hid hcp1
      have HCP2 := Lib.hid hcp2
      have HT := Lib.hid hto
      clear hown hu hne hU hun hR hx hxl hcl hul hufit hYl h1c h1 h1x hnl hnu hti htz hts htb hcp1 hcp2 hto hB1 hU1 hL1 hL1l hz hRn htk hbl hcl' hO1 hO2 hB2 hW2 hW2d hW3 hG
      generalize hnmE : n + m = nm at *
      generalize himE : i + m = im at *
      go_enter Try.func106, Try.ntmps106
      go_wp2_with (first
        | (at_builtin; refine plV rfl _ (exec_append _ _ 51 3 rfl _ _ rfl rfl (HZ.out _)) ?_)
        | (refine plV rfl _ (exec_copy _ _ 51 51 rfl (.slice (some ⟨G, i * 2, none⟩) (nm - i) (cap' - i)) (.slice (some ⟨ug, 0, none⟩) m ucap) rfl rfl (HCP1.out _ _ _ _ _ (by omega) (by omega))) ?_))
      go_region_law_o (refine step_exec rfl _ (exec_copy _ _ 51 51 rfl (.slice (some ⟨G, im * 2, none⟩) (nm - im) (cap' - im)) (.slice (some ⟨g, i * 2, none⟩) (n - i) (cap - i)) (by simp [Act.eval, Act.put]) (by simp [Act.eval, Act.put]) (HCP2.out _ _ _ _ _ _ (by omega) (by omega) (by omega))) ?_)
      go_wp2
      go_ret
      exact ⟨_, rfl, HT.out⟩
end Go.Proofs.Ytgelbeglffjdaaa

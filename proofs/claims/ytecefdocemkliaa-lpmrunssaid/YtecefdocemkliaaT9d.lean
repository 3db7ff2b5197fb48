/- take and give of package lpm. -/
import Derived.Test.YtecefdocemkliaaT9c
namespace Go.Proofs.Ytecefdocemkliaa
open Go Go.RowKit

def takeN (T : Tb) (d : Nd) : Option (Nat × Tb) :=
  match T.free.getLast? with
  | some n => if n < T.nds.length then some (n, { T with nds := T.nds.set n d, free := T.free.dropLast }) else none
  | none => some (T.nds.length, { T with nds := T.nds ++ [d] })
/-- What is known in a region that reads a slice out of the table and a thing out of a box. -/
def HeldT (g : Nat) (v : Value) (b : Nat) (t : TypeId) (l : List Value) (W : World) : Prop := W.cell? ⟨g, 4, none⟩ = some v ∧ Bx W b t l
def HeldB (b : Nat) (t : TypeId) (l : List Value) (W : World) : Prop := Bx W b t l
theorem rangeAll {w : World} {g : Nat} {t : TypeId} {l : List Value} (h : Bx w g t l) : w.rangeAt g 0 l := h.range 0 l (by simp)
set_option maxRecDepth 100000 in
set_option maxHeartbeats 4000000 in
theorem take_free (T : Tb) (d : Nd) (w : World) (X : Nat → Prop) (g : Nat) (h : TabM w X g T) (f : d.p.addr.length = 16) (fr : List Nat) (n : Nat) (hf : T.free = fr ++ [n]) (hn : n < T.nds.length) :
    Calls Try.prog 34 #[.pointer (some ⟨g, 0, none⟩), d.val] w fun e w' => e = .returned (.int .i64 (n : Int)) ∧ ∃ X', TabM w' X' g { T with nds := T.nds.set n d, free := fr } ∧ Upd w X w' X' := by
  obtain ⟨gn, cap, vf, h⟩ := h
  obtain ⟨gf, cf, rfl⟩ : ∃ gf cf, vf = .slice (some ⟨gf, 0, none⟩) (fr.length + 1) cf := by
    have := h.free
    rw [hf, List.length_append, List.length_singleton] at this
    obtain ⟨gf, cf, e, _⟩ := this.form (by omega)
    exact ⟨gf, cf, e⟩
  have hcaps := h.caps
  have hfr := h.free
  rw [hf, List.length_append, List.length_singleton] at hfr
  have hcl : fr.length + 1 ≤ cf ∧ cf ≤ maxLen := by
    rcases hfr.2 with ⟨h1, _⟩ | ⟨g', cap', cur, h1, _, _, h2, h3, _⟩
    · cases h1
    · cases h1; exact ⟨h2, h3⟩
  have hb : Below w.heap.size w (w.alloc (.cells d.row.toArray 79)) := (Below.refl _ _).alloc (Nat.le_refl _) _
  have h1 := h.up hb
  have hgl := h.box.lt
  have hfr1 := own_below hfr hb
  have cf0 : (w.alloc (.cells d.row.toArray 79)).cell? ⟨gf, fr.length, none⟩ = some (.int .i64 (n : Int)) := by
    rw [hfr1.cellAt fr.length (by omega)]
    simp [intsN]
  have hsz : (w.alloc (.cells d.row.toArray 79)).heap.size = w.heap.size + 1 := by simp
  have c5 := h1.c5
  have c4 := h1.c4
  have z5 : (w.alloc (.cells d.row.toArray 79)).frozen? ⟨g, 5, none⟩ = false := h1.box.frozen 5
  have HU0 := Lib.hid (Upd.of_below X hb)
  have HP := Lib.hid (h.pop hf)
  have HF := Lib.hid f
  rw [show d.val = .agg d.row.toArray from rfl]
  unfold maxLen at hcl hcaps
  clear h h1 hfr hfr1 hb hf f HU0
  go_enter Try.func34, Try.ntmps34
  go_wp2
  have e0 : (w.setCell ⟨g, 5, none⟩ (.slice (some ⟨gf, 0, none⟩) fr.length cf)).heap.size = w.heap.size := by simp
  have hb2 : Below w.heap.size (w.setCell ⟨g, 5, none⟩ (.slice (some ⟨gf, 0, none⟩) fr.length cf)) ((w.setCell ⟨g, 5, none⟩ (.slice (some ⟨gf, 0, none⟩) fr.length cf)).alloc (.cells d.row.toArray 79)) := (Below.refl _ _).alloc (by simp) _
  have h2 := HP.out.up (by rw [e0]; exact hb2)
  have hbx := Bx.new (w.setCell ⟨g, 5, none⟩ (.slice (some ⟨gf, 0, none⟩) fr.length cf)) 79 d.row
  rw [e0] at hbx
  have hu : Upd w X ((w.setCell ⟨g, 5, none⟩ (.slice (some ⟨gf, 0, none⟩) fr.length cf)).alloc (.cells d.row.toArray 79)) X := (Upd.setCell g 5 _ HP.out.inG).trans (Upd.of_below X (by rw [e0]; exact hb2))
  generalize (w.setCell ⟨g, 5, none⟩ (.slice (some ⟨gf, 0, none⟩) fr.length cf)).alloc (.cells d.row.toArray 79) = W at *
  clear hb2 e0
  have hgn : gn < w.heap.size := by have := HP.out.low gn HP.out.inN; simpa using this
  refine wp_region_noPanic ?_
  refine wp_region_held_drew (S := HeldT g (.slice (some ⟨gn, 0, none⟩) T.nds.length cap) w.heap.size 79 d.row) (by kernel_rfl) ⟨h2.c4, hbx⟩ (fun hHeld => ?_)
  have h3 : TabG W.drew X g { T with free := fr } gn cap (.slice (some ⟨gf, 0, none⟩) fr.length cf) := ⟨h2.box, h2.nds, h2.free, h2.addr, h2.inG, h2.inN, h2.inF, h2.low⟩
  have hu3 : Upd w X W.drew X := ⟨hu.os, hu.tape, hu.output, hu.size, hu.block, hu.sub⟩
  clear h2 hu hbx
  generalize W.drew = W2 at *
  refine held_take (v := ?v64) 0 rfl (by kernel_rfl) (by kernel_rfl) (by kernel_rfl) (fun _ _ _ h => h) (by rfl) ?y64 (by assumption) ?_
  case y64 => (intro w hSw; unfold HeldT at hSw; go_simp; (try with_reducible rfl); (try omega))
  simp only [List.setIfInBounds_toArray, List.set_cons_zero, List.set_cons_succ]
  refine held_take (v := ?v67) 1 rfl (by kernel_rfl) (by kernel_rfl) (by kernel_rfl) (fun _ _ _ h => h) (by rfl) ?y67 (by assumption) ?_
  case y67 => (intro w hSw; unfold HeldT at hSw; go_simp; (try with_reducible rfl); (try omega))
  simp only [List.setIfInBounds_toArray, List.set_cons_zero, List.set_cons_succ]
  refine held_take (v := ?v70) 2 rfl (by kernel_rfl) (by kernel_rfl) (by kernel_rfl) (fun _ _ _ h => h) (by rfl) ?y70 (by assumption) ?_
  case y70 => (intro w hSw; unfold HeldT at hSw; go_simp; (try with_reducible rfl); (try omega))
  simp only [List.setIfInBounds_toArray, List.set_cons_zero, List.set_cons_succ]
  refine held_take (v := ?v73) 3 rfl (by kernel_rfl) (by kernel_rfl) (by kernel_rfl) (fun _ _ _ h => h) (by rfl) ?y73 (by assumption) ?_
  case y73 => (intro w hSw; unfold HeldT at hSw; go_simp; (try with_reducible rfl); (try omega))
  simp only [List.setIfInBounds_toArray, List.set_cons_zero, List.set_cons_succ]
  refine held_take (v := ?v76) 4 rfl (by kernel_rfl) (by kernel_rfl) (by kernel_rfl) (fun _ _ _ h => h) (by rfl) ?y76 (by assumption) ?_
  case y76 => (intro w hSw; unfold HeldT at hSw; go_simp; (try with_reducible rfl); (try omega))
  simp only [List.setIfInBounds_toArray, List.set_cons_zero, List.set_cons_succ]
  refine held_take (v := d.val) 5 rfl (by kernel_rfl) (by kernel_rfl) (by kernel_rfl) (fun _ _ _ h => h) (by rfl) (fun W hSw => exec_load_any _ (.tmp 3) rfl w.heap.size 0 d.row _ rfl (rangeAll hSw.2) Try.underlying79 rfl (nd_infoC HF.out)) (by assumption) ?_
  simp only [List.setIfInBounds_toArray, List.set_cons_zero, List.set_cons_succ]
  refine held_take (v := ?v81) 6 rfl (by kernel_rfl) (by kernel_rfl) (by kernel_rfl) (fun _ _ _ h => h) (by rfl) ?y81 (by assumption) ?_
  case y81 => (intro w hSw; unfold HeldT at hSw; go_simp; (try with_reducible rfl); (try omega))
  simp only [List.setIfInBounds_toArray, List.set_cons_zero, List.set_cons_succ]
  refine held_none 7 rfl (by kernel_rfl) (by rfl) (fun K hK => ?_)
  refine wp_store_mid 79 (.tmp 37) (.tmp 36) rfl gn (n * 22) d.row.toArray rfl rfl ?_ (by simpa using nd_infoC HF.out) (all_oneCell_toArray (nd_one d)) ?_
  · obtain ⟨d0, hd0⟩ : ∃ d0, T.nds[n]? = some d0 := ⟨_, List.getElem?_eq_getElem hn⟩
    exact h3.there n d0 hd0 _ (by simp [nd_len HF.out])
  · have h4 := h3.setNode n hn d HF.out
    have hu4 := hu3.trans (Upd.setCells gn h3.inN d.row W2 (n * 22))
    refine hK.out _ _ ⟨h4.c4.trans (by simp), ?_⟩ (fun _ => ?_)
    · exact hHeld.2.upd (Upd.setCells (X := fun k => k = gn) gn rfl d.row W2 (n * 22)) (by omega)
    clear hK K
    refine wpAnyH_done (by kernel_rfl) ?_ _
    refine NoPanic.normal ?_
    go_wp2
    go_ret
    exact ⟨rfl, X, ⟨gn, cap, _, h4⟩, hu4⟩
set_option maxRecDepth 100000 in
set_option maxHeartbeats 4000000 in
theorem take_new (T : Tb) (d : Nd) (w : World) (X : Nat → Prop) (g : Nat) (h : TabM w X g T) (f : d.p.addr.length = 16) (hf : T.free = []) (hl : T.nds.length ≤ 1000000) :
    Calls Try.prog 34 #[.pointer (some ⟨g, 0, none⟩), d.val] w fun e w' => e = .returned (.int .i64 (T.nds.length : Int)) ∧ ∃ X', TabM w' X' g { T with nds := T.nds ++ [d] } ∧ Upd w X w' X' := by
  obtain ⟨gn, cap, vf, h⟩ := h
  obtain ⟨fa, fc, rfl⟩ : ∃ fa fc, vf = .slice fa 0 fc := by
    have := h.free
    rw [hf] at this
    rcases this.2 with ⟨rfl, _⟩ | ⟨g', cap', cur, rfl, _⟩
    · exact ⟨_, _, rfl⟩
    · exact ⟨_, _, rfl⟩
  have hb : Below w.heap.size w (w.alloc (.cells d.row.toArray 79)) := (Below.refl _ _).alloc (Nat.le_refl _) _
  have h1 := h.up hb
  have hbx := Bx.new w 79 d.row
  have hu := Upd.of_below X hb
  have c5 := h1.c5
  have hgl := h.low gn h.inN
  have hgg := h.low g h.inG
  have hgne := h.ne
  have HH := Lib.hid h1
  have HF := Lib.hid f
  have HU := Lib.hid hu
  have HBX := Lib.hid hbx
  rw [show d.val = .agg d.row.toArray from rfl]
  clear h h1 hb hf f hu hbx
  go_enter Try.func34, Try.ntmps34
  go_wp2
  have h1 := HH.out
  have hu := HU.out
  have hbx := HBX.out
  clear HH HU HBX c5
  generalize w.alloc (.cells d.row.toArray 79) = W at *
  refine wp_region_noPanic ?_
  refine wp_region_held_drew (S := HeldB w.heap.size 79 d.row) (by kernel_rfl) hbx (fun hHeld => ?_)
  have h3 : TabG W.drew X g T gn cap (.slice fa 0 fc) := ⟨h1.box, h1.nds, h1.free, h1.addr, h1.inG, h1.inN, h1.inF, h1.low⟩
  have hu3 : Upd w X W.drew X := ⟨hu.os, hu.tape, hu.output, hu.size, hu.block, hu.sub⟩
  clear h1 hu hbx
  generalize W.drew = W2 at *
  have c4 := h3.c4
  have hbb : Below W2.heap.size W2 (W2.alloc (.cells d.row.toArray 79)) := (Below.refl _ _).alloc (Nat.le_refl _) _
  have c4' := (h3.up hbb).c4
  have hx4 : Bx (W2.alloc (.cells d.row.toArray 79)) w.heap.size 79 d.row := Bx.al hHeld _
  refine held_take (v := ?v140) 0 rfl (by kernel_rfl) (by kernel_rfl) (by kernel_rfl) (fun _ _ _ h => h) (by rfl) ?y140 (by assumption) ?_
  case y140 => (intro w hSw; unfold HeldB at hSw; go_simp; (try with_reducible rfl); (try omega))
  simp only [List.setIfInBounds_toArray, List.set_cons_zero, List.set_cons_succ]
  refine held_take (v := ?v143) 1 rfl (by kernel_rfl) (by kernel_rfl) (by kernel_rfl) (fun _ _ _ h => h) (by rfl) ?y143 (by assumption) ?_
  case y143 => (intro w hSw; unfold HeldB at hSw; go_simp; (try with_reducible rfl); (try omega))
  simp only [List.setIfInBounds_toArray, List.set_cons_zero, List.set_cons_succ]
  refine held_take (v := ?v146) 2 rfl (by kernel_rfl) (by kernel_rfl) (by kernel_rfl) (fun _ _ _ h => h) (by rfl) ?y146 (by assumption) ?_
  case y146 => (intro w hSw; unfold HeldB at hSw; go_simp; (try with_reducible rfl); (try omega))
  simp only [List.setIfInBounds_toArray, List.set_cons_zero, List.set_cons_succ]
  refine held_take (v := ?v149) 3 rfl (by kernel_rfl) (by kernel_rfl) (by kernel_rfl) (fun _ _ _ h => h) (by rfl) ?y149 (by assumption) ?_
  case y149 => (intro w hSw; unfold HeldB at hSw; go_simp; (try with_reducible rfl); (try omega))
  simp only [List.setIfInBounds_toArray, List.set_cons_zero, List.set_cons_succ]
  refine held_take (v := d.val) 5 rfl (by kernel_rfl) (by kernel_rfl) (by kernel_rfl) (fun _ _ _ h => h) (by rfl) (fun W hSw => exec_load_any _ (.tmp 3) rfl w.heap.size 0 d.row _ rfl (rangeAll hSw) Try.underlying79 rfl (nd_infoC HF.out)) (by assumption) ?_
  simp only [List.setIfInBounds_toArray, List.set_cons_zero, List.set_cons_succ]
  refine wpAnyH_ready (rs := [4, 6]) (by kernel_rfl) (by simp) (AllReadyH.cons rfl (fun K hK => ?_) (AllReadyH.cons rfl (fun K hK => ?_) AllReadyH.nil))
  rw [if_pos (by rfl)]
  go_simp
  refine hK.out _ _ hHeld (fun _ => ?_)
  clear hK K
  refine held_one 6 rfl (by kernel_rfl) (by rfl) (fun K hK => ?_)
  refine wp_one_nd (.tmp 44) rfl d HF.out rfl ?_
  refine hK.out _ _ hx4 (fun _ => ?_)
  clear hK K
  rotate_left
  rw [if_pos (by rfl)]
  refine wp_one_nd (.tmp 44) rfl d HF.out rfl ?_
  refine hK.out _ _ hx4 (fun _ => ?_)
  clear hK K
  refine held_one 4 rfl (by kernel_rfl) (by rfl) (fun K hK => ?_)
  go_simp
  refine hK.out _ _ hx4 (fun _ => ?_)
  clear hK K
  all_goals (
    try simp only [Act.put, List.setIfInBounds_toArray, List.set_cons_zero, List.set_cons_succ]
    have h4 := h3.up hbb
    have hu4 := hu3.trans (Upd.of_below X hbb)
    have hbn := Bx.new W2 79 d.row
    have hsz : (W2.alloc (.cells d.row.toArray 79)).heap.size = W2.heap.size + 1 := by simp
    clear h3 hu3 hbb c4 c4'
    generalize W2.alloc (.cells d.row.toArray 79) = W3 at *
    obtain ⟨ti, hti, htz, hts, htb⟩ := info_parts nd_infoF
    refine held_one 7 rfl (by kernel_rfl) (by rfl) (fun K hK => ?_)
    refine wp_append_lies W3 (.tmp 43) (.tmp 45) 57 rfl 0 79 ti nd0.val 22 64 Try.underlying57 hti htz hts htb rfl (by decide) _ T.nds.length (T.nds.flatMap Nd.row) rfl h4.nds ⟨W2.heap.size, 0, none⟩ 1 1 d.row rfl (by rw [nd_len HF.out]) (fun j u hj => World.news_of_block hbn j u (by simpa using hj)) (nd_one d) (by omega) (by unfold maxLen; omega) (by omega) (by omega) _ rfl ?_
    intro g' cap' w1 hown hgr hat hlt
    obtain ⟨h5, hu5⟩ := h4.more d HF.out hown hgr hat hlt
    have hxx : Bx w1 w.heap.size 79 d.row := (hgr.block w.heap.size (Bx.lt hx4) (fun e => by have := Option.some.inj e; simp only at this; omega)).trans hx4
    have hx5 : HeldB w.heap.size 79 d.row (w1.setCell ⟨g, 4, none⟩ (.slice (some ⟨g', 0, none⟩) (T.nds.length + 1) cap')) := Bx.setOther hxx (by omega) _ _
    have c6 : w1.cell? ⟨g, 4, none⟩ = some (.slice (some ⟨gn, 0, none⟩) T.nds.length cap) := (hgr.cell_far ⟨g, 4, none⟩ h4.box.lt (fun e => by cases e; exact hgne rfl)).trans h4.c4
    have z6 : w1.frozen? ⟨g, 4, none⟩ = false := (hgr.frozen_far ⟨g, 4, none⟩ h4.box.lt (fun e => by cases e; exact hgne rfl)).trans (h4.box.frozen 4)
    refine hK.out _ _ hxx (fun _ => ?_)
    clear hK K
    (try simp only [Act.put, List.setIfInBounds_toArray, List.set_cons_zero, List.set_cons_succ])
    have hHeld2 : HeldB w.heap.size 79 d.row w1 := hxx
    refine held_take (v := ?v193) 8 rfl (by kernel_rfl) (by kernel_rfl) (by kernel_rfl) (fun _ _ _ h => h) (by rfl) ?y193 (by assumption) ?_
    case y193 => (intro w hSw; unfold HeldB at hSw; go_simp; (try with_reducible rfl); (try omega))
    simp only [List.setIfInBounds_toArray, List.set_cons_zero, List.set_cons_succ]
    refine held_take (v := ?v196) 9 rfl (by kernel_rfl) (by kernel_rfl) (by kernel_rfl) (fun _ _ _ h => h) (by rfl) ?y196 (by assumption) ?_
    case y196 => (intro w hSw; unfold HeldB at hSw; go_simp; (try with_reducible rfl); (try omega))
    simp only [List.setIfInBounds_toArray, List.set_cons_zero, List.set_cons_succ]
    refine held_none 10 rfl (by kernel_rfl) (by rfl) (fun K hK => ?_)
    go_simp
    refine hK.out _ _ hx5 (fun _ => ?_)
    clear hK K
    refine wpAnyH_done (by kernel_rfl) ?_ _
    refine NoPanic.normal ?_
    have c7 := h5.c4
    simp only [List.length_append, List.length_singleton] at c7
    go_wp2
    go_ret
    exact ⟨rfl, _, ⟨_, _, _, h5⟩, hu4.trans hu5⟩)
theorem take_any (T T' : Tb) (d : Nd) (r : Nat) (w : World) (X : Nat → Prop) (g : Nat) (h : TabM w X g T) (f : d.p.addr.length = 16) (hT : takeN T d = some (r, T')) (hl : T.nds.length ≤ 1000000) :
    Calls Try.prog 34 #[.pointer (some ⟨g, 0, none⟩), d.val] w fun e w' => e = .returned (.int .i64 (r : Int)) ∧ ∃ X', TabM w' X' g T' ∧ Upd w X w' X' := by
  rcases List.eq_nil_or_concat T.free with hf | ⟨fr, n, hf⟩
  · have := take_new T d w X g h f hf hl
    rw [takeN, hf] at hT
    rw [hf] at this
    cases hT
    exact this
  · rw [List.concat_eq_append] at hf
    rw [takeN, hf, List.getLast?_append] at hT
    simp only [List.getLast?_singleton, Option.some_or, List.dropLast_concat] at hT
    split at hT
    · rename_i hn
      have := take_free T d w X g h f fr n hf hn
      cases hT
      exact this
    · cases hT
theorem int_infoF : (Try.prog.info? 3).map (fun i => (i.zero, i.size, i.bytes)) = some (some (.int .i64 0), 1, 8) := by kernel_rfl
def giveN (T : Tb) (n : Nat) : Tb := { T with nds := T.nds.set n nd0, free := T.free ++ [n] }
set_option maxRecDepth 100000 in
set_option maxHeartbeats 4000000 in
theorem give_any (T : Tb) (n : Nat) (w : World) (X : Nat → Prop) (g : Nat) (h : TabM w X g T) (hn : n < T.nds.length) (hl2 : T.free.length ≤ 1000000) :
    Calls Try.prog 38 #[.pointer (some ⟨g, 0, none⟩), .int .i64 (n : Int)] w fun e w' => (∃ v, e = .returned v) ∧ ∃ X', TabM w' X' g (giveN T n) ∧ Upd w X w' X' := by
  obtain ⟨gn, cap, vf, h⟩ := h
  have c4 := h.c4
  have HH := Lib.hid h
  have hcaps := h.caps
  unfold maxLen at hcaps
  obtain ⟨d0, hd0⟩ : ∃ d0, T.nds[n]? = some d0 := ⟨_, List.getElem?_eq_getElem hn⟩
  have HTH := Lib.hid (h.there n d0 hd0 22 (by omega))
  have HF : Hid (nd0.p.addr.length = 16) := rfl
  clear h hd0
  go_enter Try.func38, Try.ntmps38
  go_wp2_with (first | (refine wpList_build0 rfl 79 rfl nd0.row built_nd0 ?_) | (refine wpList_store_mid rfl 79 (.tmp 10) (.tmp 9) rfl gn (n * 22) nd0.row.toArray rfl rfl HTH.out nd_info (all_oneCell_toArray (nd_one nd0)) ?_; refine Hid.out ?_))
  refine Lib.hid ?_
  have h1 := HH.out.setNode n hn nd0 HF.out
  have hu1 : Upd w X (w.setCells gn (n * 22) nd0.row) X := Upd.setCells gn HH.out.inN nd0.row w (n * 22)
  generalize w.setCells gn (n * 22) nd0.row = W at *
  have c5 := h1.c5
  have z5 : W.frozen? ⟨g, 5, none⟩ = false := h1.box.frozen 5
  obtain ⟨ti, hti, htz, hts, htb⟩ := info_parts int_infoF
  have hbb : Below W.heap.size W (W.alloc (.cells #[.int .i64 (n : Int)] 3)) := (Below.refl _ _).alloc (Nat.le_refl _) _
  have H1 := Lib.hid (h1.up hbb)
  have HU1 := Lib.hid (hu1.trans (Upd.of_below X hbb))
  have HBN := Lib.hid (Bx.new W 3 [.int .i64 (n : Int)])
  have hgl : g < W.heap.size := h1.box.lt
  have hvf := Lib.hid h1.neF
  have HSZ := Lib.hid (show (W.alloc (.cells #[.int .i64 (n : Int)] 3)).heap.size = W.heap.size + 1 by simp)
  clear h1 hu1 HH HTH
  go_wp2_with (at_builtin; refine wpList_append_lies _ rfl _ _ 58 rfl 0 3 ti (.int .i64 0) 1 8 Try.underlying58 hti htz hts htb rfl (by decide) _ T.free.length (intsN T.free) rfl H1.out.free ⟨W.heap.size, 0, none⟩ 1 1 [.int .i64 (n : Int)] rfl rfl (fun j u hj => World.news_of_block HBN.out j u (by simpa using hj)) (by simp [Value.oneCell']) (by omega) (by unfold maxLen; omega) (by omega) (by omega) _ rfl ?_; intro g' cap' w1 hown hgr hat hlt; refine Hid.out ?_)
  refine Lib.hid ?_
  obtain ⟨h5, hu5⟩ := H1.out.push n hown hgr hat hlt
  have c6 : w1.cell? ⟨g, 5, none⟩ = some vf := (hgr.cell_far ⟨g, 5, none⟩ H1.out.box.lt (fun e => (hvf.out g e.symm).1 rfl)).trans H1.out.c5
  have z6 : w1.frozen? ⟨g, 5, none⟩ = false := (hgr.frozen_far ⟨g, 5, none⟩ H1.out.box.lt (fun e => (hvf.out g e.symm).1 rfl)).trans (H1.out.box.frozen 5)
  have HE := Lib.hid (⟨h5, hu5⟩ : _ ∧ _)
  have HU5 := Lib.hid (HU1.out.trans hu5)
  clear h5 hu5 hown hgr hat H1 HU1 HBN hbb
  go_wp2
  go_end0
  exact ⟨⟨_, rfl⟩, _, ⟨_, _, _, HE.out.1⟩, HU5.out⟩
end Go.Proofs.Ytecefdocemkliaa

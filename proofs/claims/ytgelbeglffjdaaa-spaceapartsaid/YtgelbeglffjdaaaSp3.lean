/- Lists of spans put together (package spans): what may be is gathered, sorted, and put together where it touches. -/
import Derived.Test.YtgelbeglffjdaaaSp2
import Derived.Test.YtgelbeglffjdaaaRegX
namespace Go.Proofs.Ytgelbeglffjdaaa
open Go Go.RowKit Go.Shelf
attribute [local go_sem] Oper.semAt_some

theorem fill_sp1 (s : Spn) (z : Array Value) (hz : z.size = 2) : Instr.fill (fun i => some (i * 2, 2)) z [(0, sV s)] = some (sR s).toArray := fill_one 2 (sR s) rfl z hz
theorem exec_one_sp {ρ : Operand → Value} {o : Oper} {w : World} (x : Operand) (ho : o.op = .buildSlice 51 1 #[(0, x)]) (s : Spn) (hx : ρ x = sV s) :
    (execOp ρ o).run Try.prog w = .ok (.value (.slice (some ⟨w.heap.size, 0, none⟩) 1 1)) (w.alloc (.cells (sR s).toArray 27)) := by
  obtain ⟨i, hi, hz, hs, _⟩ := info_parts sp_infoF
  have := run_buildSlice (P := Try.prog) w 51 27 1 #[(0, sV s)] (sR s).toArray i (sV ⟨0, 0⟩) Try.underlying51 hi hz (by rw [hs]; decide) (by rw [hs]; decide) (by rw [hs]; exact fill_sp1 s _ (by simp))
  unfold execOp
  simp only [ho, List.map_toArray, List.map_cons, List.map_nil, hx, Sem.run_bind, this, Result.andThen_ok, Sem.run_pure]
theorem exec_one_spb {ρ : Operand → Value} {o : Oper} {w : World} (x : Operand) (ho : o.op = .buildSlice 51 1 #[(0, x)]) (s : Spn) (hx : ρ x = sV s) (b : Nat) (hb : w.heap.size = b) :
    (execOp ρ o).run Try.prog w = .ok (.value (.slice (some ⟨b, 0, none⟩) 1 1)) (w.alloc (.cells (sR s).toArray 27)) := by subst hb; exact exec_one_sp x ho s hx
/-- A row of spans that lies at b, or behind. -/
def OwnS (b : Nat) (w : World) (v : Value) (l : List Spn) : Prop := w.ownsRow b 27 2 v l.length (l.flatMap sR)
theorem OwnS.isS {b : Nat} {w : World} {v : Value} {l : List Spn} (h : OwnS b w v l) : IsS w v l := IsC.of_owned (sR_all _) h
theorem OwnS.less {b c : Nat} {w : World} {v : Value} {l : List Spn} (h : OwnS b w v l) (hc : c ≤ b) : OwnS c w v l := own_mono h hc
/-- What has been gathered in the box B: a row of the call's own. -/
structure ColS (w : World) (B : Nat) (l : List Spn) (W : World) : Prop where
  row : ∃ v, Bx W B 51 [v] ∧ W.ownsRow w.heap.size 27 2 v l.length (l.flatMap sR)
  below : Below w.heap.size w W
theorem ColS.from {w : World} {Bo : Nat} {l : List Spn} {B : Nat} (hB : w.heap.size ≤ B) {X Y : World} {row : Option Nat} (h : ColS w Bo l X) (hg : X.grownBy Y row) (hr : ∀ r, row = some r → B ≤ r ∧ ∃ o : Obj, X.heap[r]? = some o ∧ o.isCells = false) : ColS w Bo l Y := by
  obtain ⟨⟨v, h1, h2⟩, h3⟩ := h
  exact ⟨⟨v, bx_from h1 hg hr, own_from h2 hg hr⟩, ownFrom_below (β := Unit) (Nat.le_refl _) hB () X Y row h3 hg hr⟩
theorem ColS.up {w : World} {Bo : Nat} {l : List Spn} {W W' : World} (h : ColS w Bo l W) (hb : Below W.heap.size W W') : ColS w Bo l W' := by
  obtain ⟨⟨v, h1, h2⟩, h3⟩ := h
  exact ⟨⟨v, h1.up hb, own_below h2 hb⟩, below_up h3 hb h3.size⟩
/-- A list of lists. -/
def lsR (p : Value × List Spn) : List Value := [p.1]
abbrev IsL (w : World) (v : Value) (ls : List (Value × List Spn)) : Prop := IsC lsR 1 w v ls
def gathS (ls : List (Value × List Spn)) : List Spn := ls.flatMap fun p => goodS p.2
def flatS (ls : List (Value × List Spn)) : List Spn := ls.flatMap (·.2)
theorem gath_flat (ls : List (Value × List Spn)) : gathS ls = (flatS ls).filter mayB := by
  induction ls with
  | nil => rfl
  | cons p ls ih =>
    unfold gathS flatS at *
    rw [List.flatMap_cons, List.flatMap_cons, List.filter_append, ih]
    rfl
theorem gath_take (ls : List (Value × List Spn)) (j : Nat) (p : Value × List Spn) (hp : ls[j]? = some p) : gathS (ls.take (j + 1)) = gathS (ls.take j) ++ goodS p.2 := by
  unfold gathS
  rw [List.take_add_one, hp, List.flatMap_append]
  simp
theorem gath_len (ls : List (Value × List Spn)) (j : Nat) : (gathS (ls.take j)).length ≤ (flatS ls).length := by
  rw [gath_flat]
  refine Nat.le_trans (List.length_filter_le _ _) ?_
  conv => rhs; rw [← List.take_append_drop j ls]
  unfold flatS
  rw [List.flatMap_append, List.length_append]
  omega
/-- One more span in the box: what the append and the store leave. -/
theorem col_more {w : World} {Bo : Nat} {l : List Spn} {x : Spn} {V w1 : World} {v v' : Value} (hBo : w.heap.size ≤ Bo)
    (hv : Bx V Bo 51 [v]) (hrow : V.ownsRow w.heap.size 27 2 v l.length (l.flatMap sR)) (hbel : Below w.heap.size w V)
    (hown : w1.ownsRow w.heap.size 27 2 v' (l.length + 1) (l.flatMap sR ++ sR x)) (hgr : (V.alloc (.cells (sR x).toArray 27)).grownBy w1 v.ownBlock) :
    Bx w1 Bo 51 [v] ∧ (∀ B0, Bo < B0 → KeepsFrom B0 V (w1.setCell ⟨Bo, 0, none⟩ v')) ∧ (∀ R : Nat → Prop, R Bo → KpR w.heap.size R V (w1.setCell ⟨Bo, 0, none⟩ v')) ∧ ColS w Bo (l ++ [x]) (w1.setCell ⟨Bo, 0, none⟩ v') ∧
      (∀ (k : Nat) (c : Array Value) (t : TypeId) (z : Nat × Nat), k ≠ Bo → t ≠ 27 → V.heap[k]? = some (.cells c t z) → (w1.setCell ⟨Bo, 0, none⟩ v').heap[k]? = some (.cells c t z)) := by
  have hbb : Below V.heap.size V (V.alloc (.cells (sR x).toArray 27)) := (Below.refl _ _).alloc (Nat.le_refl _) _
  have HROW := own_below hrow hbb
  have hnR : ∀ k c t z, (V.alloc (.cells (sR x).toArray 27)).heap[k]? = some (.cells c t z) → (k < w.heap.size ∨ t ≠ 27) → some k ≠ v.ownBlock := fun k c t z hk ht e => by
    obtain ⟨cur, hc⟩ := own_type HROW k e.symm
    have := owned_low HROW k e.symm
    rw [hk] at hc
    cases hc
    rcases ht with ht | ht
    · omega
    · exact ht rfl
  have hnO : ∀ k o, (V.alloc (.cells (sR x).toArray 27)).heap[k]? = some o → o.isCells = false → some k ≠ v.ownBlock := fun k o hk ho e => by
    obtain ⟨cur, hc⟩ := own_type HROW k e.symm
    rw [hk] at hc
    cases hc
    cases ho
  have HV := hv.up hbb
  have hv1 : Bx w1 Bo 51 [v] := (hgr.block _ HV.lt (hnR _ _ _ _ HV (.inr (by decide)))).trans HV
  have all : ∀ (k : Nat) (c : Array Value) (t : TypeId) (z : Nat × Nat), k ≠ Bo → (k < w.heap.size ∨ t ≠ 27) → V.heap[k]? = some (.cells c t z) → (w1.setCell ⟨Bo, 0, none⟩ v').heap[k]? = some (.cells c t z) := by
    intro k c t z hne ht hk
    have hk2 := (Below.heap_alloc V (.cells (sR x).toArray 27) k (Array.getElem?_eq_some_iff.1 hk).1).trans hk
    have hk3 := (hgr.block k (Array.getElem?_eq_some_iff.1 hk2).1 (hnR k c t z hk2 ht)).trans hk2
    exact (Below.heap_setCell w1 _ _ k (fun e => hne e)).trans hk3
  have hsz : V.heap.size ≤ (w1.setCell ⟨Bo, 0, none⟩ v').heap.size := by have := hgr.size; simp at this ⊢; omega
  refine ⟨hv1, fun B0 hBo2 => ⟨hsz, fun k o hB hk ho => ?_⟩, fun R hR => ⟨hsz, fun k c t z h1 h2 hk => all k c t z (fun e => h1 (by rw [e]; exact hR)) h2 hk⟩, ⟨⟨v', hv1.set 0 _, ?_⟩, ?_⟩, fun k c t z h1 h2 hk => all k c t z h1 (.inr h2) hk⟩
  · have hk2 := (Below.heap_alloc V (.cells (sR x).toArray 27) k (Array.getElem?_eq_some_iff.1 hk).1).trans hk
    have hk3 := (hgr.block k (Array.getElem?_eq_some_iff.1 hk2).1 (hnO k o hk2 ho)).trans hk2
    refine (Below.heap_setCell w1 _ _ k (fun e => ?_)).trans hk3
    simp only at e
    omega
  · have e1 : (l ++ [x]).length = l.length + 1 := by simp
    have e2 : (l ++ [x]).flatMap sR = l.flatMap sR ++ sR x := by simp
    rw [e1, e2]
    exact own_keep hown (fun k e => Below.heap_setCell w1 _ _ k (fun e2 => by
      obtain ⟨cur, hc⟩ := own_type hown k e
      simp only at e2
      rw [e2, show w1.heap[Bo]? = _ from hv1] at hc
      cases hc))
  · exact ((below_up hbel hbb hbel.size).grown hgr (by have := hbel.size; simp; omega) (fun k e => owned_low HROW k e)).setCell (p := ⟨Bo, 0, none⟩) hBo _
def HeldJ (b9 gj at' : Nat) (xf yl : Int) (W : World) : Prop := W.cell? ⟨b9, 0, none⟩ = some (.int .i64 xf) ∧ W.cell? ⟨gj, at', none⟩ = some (.int .i64 yl)
def HeldC (b9 : Nat) (xl : Int) (W : World) : Prop := W.cell? ⟨b9, 1, none⟩ = some (.int .i64 xl)
set_option maxRecDepth 100000 in
set_option maxHeartbeats 8000000 in
theorem together_own (vv : Value) (ls : List (Value × List Spn)) (w : World) (h : IsL w vv ls) (hl : ∀ p ∈ ls, IsS w p.1 p.2) (hN : (flatS ls).length ≤ 100000) (hM : ls.length ≤ 100000) :
    Calls Try.prog 80 #[vv] w fun e w' => ∃ v, e = .returned v ∧ OwnS w.heap.size w' v (normS (flatS ls)) ∧ Below w.heap.size w w' := by
  obtain ⟨_, va, vc, rfl, hvc, hvm, hvb⟩ := h
  unfold maxLen at hvm
  have HVB := Lib.hid hvb
  have HL := Lib.hid hl
  have HN := Lib.hid hN
  clear hvb hl hN
  have hz : ColS w w.heap.size (gathS (ls.take 0)) (w.alloc (.cells #[.slice none 0 0] 51)) := ⟨⟨.slice none 0 0, Bx.new w _ [.slice none 0 0], World.ownsRow_nil _ _ _ _⟩, (Below.refl _ _).alloc (Nat.le_refl _) _⟩
  have HZ := Lib.hid hz
  have hsz0 : w.heap.size < (w.alloc (.cells #[.slice none 0 0] 51)).heap.size := by simp
  clear hz
  refine (callsIn_wide (n := 5)).1 ?_
  refine callsIn_of_wp_marks Try.func80 rfl trivial ?_ rfl
  simp only [Try.ntmps80, List.size_toArray, List.length_cons, List.length_nil, Nat.reduceAdd, Nat.reduceSub, Array.replicate_succ, Array.replicate_zero, List.push_toArray, List.append_toArray, List.nil_append, List.cons_append]
  gi_wp2
  generalize w.alloc (.cells #[.slice none 0 0] 51) = W0 at *
  refine wpIn_loop (fun a' w' => ∃ (j : Nat) (Ds : List Nat) (u5 u6 u14 u15 u16 u17 u18 u19 u20 u21 u22 u23 u24 : Value), j ≤ ls.length ∧ ColS w w.heap.size (gathS (ls.take j)) w' ∧ Ds.Nodup ∧ (∀ D ∈ Ds, w.heap.size < D ∧ w'.heap[D]? = some (.deferred (some []))) ∧
      a' = { tmps := #[.slice va ls.length vc, undef, .slice none 0 0, .pointer (some ⟨w.heap.size, 0, none⟩), undef, u5, u6, undef, undef, undef, undef, .slice va ls.length vc, .int .i64 (ls.length : Int), .int .i64 (j : Int), u14, u15, u16, u17, u18, u19, u20, u21, u22, u23, u24, undef, undef, undef, undef, undef, undef, undef, undef, undef, undef, undef, undef, undef, undef, undef, undef, undef, undef, undef, undef, undef, undef, undef, undef, undef, undef, undef, undef, undef, undef, undef, undef, undef, undef, undef, undef, undef, undef, undef, undef, undef, undef], defers := marks Ds })
    (fun a' _ => ls.length - intOf9 (a'.tmps.getD 13 undef)) ⟨0, [], _, _, _, _, _, _, _, _, _, _, _, _, _, Nat.zero_le _, HZ.out, List.nodup_nil, fun _ h => (by cases h), rfl⟩ ?_
  rintro a' w' ⟨j, Ds, u5, u6, u14, u15, u16, u17, u18, u19, u20, u21, u22, u23, u24, hj, hcol, hnd, hDs, rfl⟩
  by_cases hlt : j < ls.length
  · have hlti : (j : Int) < (ls.length : Int) := by omega
    obtain ⟨p, hp⟩ : ∃ p, ls[j]? = some p := ⟨ls[j], List.getElem?_eq_getElem hlt⟩
    obtain ⟨bb, kk, rfl, hbb, hrng⟩ : ∃ bb kk, va = some ⟨bb, kk, none⟩ ∧ bb < w.heap.size ∧ w.rangeAt bb kk (ls.flatMap lsR) := HVB.out (by omega)
    have hps := HL.out p (List.mem_of_getElem? hp)
    have hpl : p.2.length ≤ 1000000 := by
      have h1 : p.2.length ≤ (flatS ls).length := by
        obtain ⟨l1, l2, e⟩ := List.append_of_mem (List.mem_of_getElem? hp)
        rw [e]; unfold flatS; rw [List.flatMap_append, List.flatMap_cons, List.length_append, List.length_append]; omega
      have := HN.out
      omega
    obtain ⟨sa, sc, hpv⟩ : ∃ sa sc, p.1 = .slice sa p.2.length sc := by obtain ⟨_, a, c, e, _⟩ := hps; exact ⟨a, c, e⟩
    rw [hpv] at hps
    have cp : w'.cell? ⟨bb, kk + j, none⟩ = some (.slice sa p.2.length sc) := by
      have h0 := flat_range (c := 1) (f := lsR) (fun _ _ => rfl) hrng j p hp 0 p.1 rfl
      rw [hpv] at h0
      have h1 := (hcol.below.cell (p := ⟨bb, kk + j * 1 + 0, none⟩) hbb).trans h0
      simpa using h1
    have hg := gath_take ls j p hp
    have hgl := gath_len ls (j + 1)
    rw [hg] at hgl
    have HG := Lib.hid hg
    have HGL := Lib.hid (Nat.le_trans hgl HN.out)
    have hb5 : Below w'.heap.size w' (w'.alloc (.cells #[.slice sa p.2.length sc] 51)) := (Below.refl _ _).alloc (Nat.le_refl _) _
    have HCOL := Lib.hid (hcol.up hb5)
    have HBL := Lib.hid (Bx.new w' 51 [.slice sa p.2.length sc])
    have HD5 := Lib.hid (show ∀ D ∈ Ds, w.heap.size < D ∧ D < w'.heap.size ∧ (w'.alloc (.cells #[.slice sa p.2.length sc] 51)).heap[D]? = some (.deferred (some [])) from fun D hD => by
      have := hDs D hD
      have hlt := (Array.getElem?_eq_some_iff.1 this.2).1
      exact ⟨this.1, hlt, (hb5.block D hlt).trans this.2⟩)
    have HIS := Lib.hid ((hps.isD (Nat.le_refl _)).up (below_up hcol.below hb5 hcol.below.size))
    have hsz5 : (w'.alloc (.cells #[.slice sa p.2.length sc] 51)).heap.size = w'.heap.size + 1 := by simp
    have hbase : w.heap.size < w'.heap.size := by obtain ⟨v, hv, _⟩ := hcol.row; exact hv.lt
    clear hcol hDs hps hg hgl hb5 hrng hp hpv HVB HL HZ
    gi_wp2_with (refine ⟨trivial, ?_⟩; refine (rows_in _ _ _ _ _).mono ?_; rintro e w5 ⟨rfl, rfl⟩; refine Hid.out ?_)
    refine Lib.hid ?_
    generalize w'.alloc (.cells #[.slice sa p.2.length sc] 51) = W5 at *
    clear cp
    gi_wp2
    refine wpIn_rangeFunc_ownH (n := 5) rfl (by omega) (gf := 121) (lb := #[.pointer (some ⟨w'.heap.size, 0, none⟩)]) rfl trivial (enters_of Try.func121 (by kernel_rfl) rfl)
      (rows_stops 4 w'.heap.size w.heap.size (fun k => k = w.heap.size) (.slice sa p.2.length sc) p.2 hpl W5 HIS.out HBL.out (fun k e => by omega))
      (fun h k => h.trans k) (fun W l o o' _ hl hc _ => KpR.put W l o o' hl hc) (Below.refl _ _) (fun _ => rfl)
      (fun pre V => (∀ D ∈ Ds, V.heap[D]? = some (.deferred (some []))) ∧ ColS w w.heap.size (gathS (ls.take j) ++ pre) V) (fun _ _ _ => False)
      (fun s X Y row h1 h2 h3 => ⟨fun D hD => heap_own (B := W5.heap.size) (by have := (HD5.out D hD).2.1; omega) (h1.1 D hD) h2 (fun r e => (h3 r e).1), ColS.from (by omega) h1.2 h2 h3⟩)
      (fun c s X Y row h1 h2 h3 => h1.elim)
      ⟨fun D hD => (HD5.out D hD).2.2, by rw [List.append_nil]; exact HCOL.out⟩
      (fun x a' V => ∃ B6, B6 < V.heap.size ∧ Bx V B6 27 (sR x) ∧ a' = { tmps := #[.slice (some ⟨bb, kk, none⟩) ls.length vc, undef, .slice none 0 0, .pointer (some ⟨w.heap.size, 0, none⟩), undef, .slice sa p.2.length sc, .pointer (some ⟨B6, 0, none⟩), undef, undef, undef, undef, .slice (some ⟨bb, kk, none⟩) ls.length vc, .int .i64 (ls.length : Int), .int .i64 (j : Int), .bool true, .pointer (some ⟨bb, kk + j, none⟩), .slice sa p.2.length sc, .slice sa p.2.length sc, .func (.func 121) #[] #[.pointer (some ⟨w'.heap.size, 0, none⟩)], sV x, u20, u21, u22, u23, u24, undef, undef, undef, undef, undef, undef, undef, undef, undef, undef, undef, undef, undef, undef, undef, undef, undef, undef, undef, undef, undef, undef, undef, undef, undef, undef, undef, undef, undef, undef, undef, undef, undef, undef, undef, undef, undef, undef, undef, undef, undef, undef], defers := [] })
      (fun x a' s X Y row h1 h2 h3 => by obtain ⟨B6, e0, e1, e2⟩ := h1; exact ⟨B6, Nat.lt_of_lt_of_le e0 h2.size, bx_from e1 h2 h3, e2⟩)
      ?assign ?body ?done ?stop
    case assign =>
      rintro l pre x V K ⟨hDv, hcv⟩ hK
      have hbb2 : Below V.heap.size V (V.alloc (.cells (sR x).toArray 27)) := (Below.refl _ _).alloc (Nat.le_refl _) _
      gi_wp2_with (refine inS rfl (by intro c h; cases h) rfl (exec_store_fresh _ (.tmp 6) (.tmp 19) rfl (sR x) _ V.heap.size rfl rfl rfl sp_info rfl (sR_one x)) ?_; refine Hid.out ?_)
      refine Lib.hid ?_
      gi_wp2
      exact hK _ _ ((KeepsOthers.alloc _ _).from _) (KpR.below hbb2) ⟨fun D hD => (Below.heap_alloc _ _ _ (Array.getElem?_eq_some_iff.1 (hDv D hD)).1).trans (hDv D hD), hcv.up hbb2⟩ ⟨V.heap.size, by simp, Bx.new V _ _, rfl⟩
    case body =>
      rintro l pre x a' V hl _ ⟨hDv, hcv⟩ ⟨B6, hB6, hx6, rfl⟩ hlt2
      have RX := Lib.hid (rangeAll hx6)
      obtain ⟨v, hv, hrow⟩ := hcv.row
      have cv : V.cell? ⟨w.heap.size, 0, none⟩ = some v := by rw [hv.cell]; rfl
      have hbb2 : Below V.heap.size V (V.alloc (.cells (sR x).toArray 27)) := (Below.refl _ _).alloc (Nat.le_refl _) _
      have HROW := Lib.hid (own_below hrow hbb2)
      have HROW0 := Lib.hid hrow
      have HBN := Lib.hid (Bx.new V 27 (sR x))
      have HV := Lib.hid hv
      have HBEL := Lib.hid hcv.below
      have hVb := hcv.below.size
      have HDV := Lib.hid hDv
      have hGl : (gathS (ls.take j) ++ pre).length ≤ 100000 := by
        have := HGL.out
        rw [List.length_append] at this ⊢
        omega
      obtain ⟨ti, hti, htz, hts, htb⟩ := info_parts sp_infoF
      clear hx6 hrow hv hcv hDv
      generalize hgg : gathS (ls.take j) ++ pre = G at *
      have HGG := Lib.hid hgg
      clear hgg
      gi_wp2_with (first
        | (refine inV rfl (by intro c h; cases h) rfl (sV x) (exec_load_any _ (.tmp 6) rfl B6 0 (sR x) _ rfl RX.out Try.underlying27 rfl sp_info) ?_)
        | (refine inV rfl (by intro c h; cases h) rfl (.slice (some ⟨V.heap.size, 0, none⟩) 1 1) (exec_one_sp (.tmp 21) rfl x rfl) ?_)
        | (gi_at_builtin; refine wpListIn_append_own _ rfl _ _ 51 rfl w.heap.size 27 ti (sV ⟨0, 0⟩) 2 16 Try.underlying51 hti htz hts htb rfl (by decide) _ _ _ rfl HROW.out ⟨V.heap.size, 0, none⟩ 1 1 (sR x) rfl rfl (fun j u hj => World.news_of_block HBN.out j u (by simpa using hj)) (sR_one x) (by unfold maxLen; omega) (by omega) (by simp; omega) ?_; intro v' w1 hown hgr _; refine Hid.out ?_))
      refine Lib.hid ?_
      obtain ⟨g', cap', rfl⟩ := ownsRow_succ hown
      obtain ⟨hv1, hkeep, hkp, hcol2, _⟩ := col_more (Nat.le_refl _) HV.out HROW0.out HBEL.out hown hgr
      have c1 : w1.cell? ⟨w.heap.size, 0, none⟩ = some v := by rw [hv1.cell]; rfl
      have y1 := hv1.frozen 0
      have HF := Lib.hid (show _ ∧ _ ∧ _ ∧ _ from ⟨hkeep W5.heap.size (by omega), hkp (fun k => k = w.heap.size) rfl, (fun D hD => (hkeep (w.heap.size + 1) (by omega)).same D _ (HD5.out D hD).1 (HDV.out D hD) rfl : ∀ D ∈ Ds, _), hcol2⟩)
      clear hcol2 hkp hkeep hv1 hown hgr HROW HROW0 HBN HV HBEL RX cv HDV hbb2
      gi_wp2
      refine ⟨HF.out.1, HF.out.2.1, HF.out.2.2.1, ?_⟩
      rw [← List.append_assoc, HGG.out]
      exact HF.out.2.2.2
    case done =>
      rintro D xs V hD hS ⟨hDv, hcv⟩ hK
      subst hS
      rw [← HG.out] at hcv
      have HCV := Lib.hid hcv
      have HDV := Lib.hid hDv
      clear hcv hDv
      gi_wp2
      refine ⟨⟨j + 1, D :: Ds, _, _, _, _, _, _, _, _, _, _, _, _, _, hlt, HCV.out, List.nodup_cons.2 ⟨fun h => (by have := (HD5.out D h).2.1; omega), hnd⟩, fun E hE => ?_, by (try simp only [marks, List.map_cons]); rfl⟩, ?_⟩
      · rcases List.mem_cons.1 hE with rfl | hE
        · exact ⟨by omega, hK⟩
        · exact ⟨(HD5.out E hE).1, HDV.out E hE⟩
      · simp [intOf9]; omega
    case stop =>
      rintro D c pre V _ _ h _
      exact h.elim
  · have hje : ls.length ≤ j := by omega
    have hlti : ¬ (j : Int) < (ls.length : Int) := by omega
    rw [List.take_of_length_le hje, gath_flat] at hcol
    have hgl : ((flatS ls).filter mayB).length ≤ 100000 := Nat.le_trans (List.length_filter_le _ _) HN.out
    obtain ⟨v, hv, hrow⟩ := hcol.row
    have cv : w'.cell? ⟨w.heap.size, 0, none⟩ = some v := by rw [hv.cell]; rfl
    have HS := Lib.hid (sort_any w.heap.size v ((flatS ls).filter mayB) w' hrow (by omega))
    have HV := Lib.hid hv
    have HLO := Lib.hid (owned_low hrow)
    have HTY := Lib.hid (own_type hrow)
    have HBEL := Lib.hid hcol.below
    have HDS := Lib.hid hDs
    clear hv hrow hcol hDs HZ HVB HL
    gi_wp2_with (refine ⟨trivial, ?_⟩; refine (callsIn_wide.2 HS.out).mono ?_; rintro e w2 ⟨rfl, k, hkp, hkr, hks, hk1, hk2, hk3, hk4, hk5⟩; refine Hid.out ?_)
    refine Lib.hid ?_
    have hB2 : Below w.heap.size w w2 := ⟨hk2.trans HBEL.out.os, hk3.trans HBEL.out.tape, hk4.trans HBEL.out.output, Nat.le_trans HBEL.out.size hk1, fun i hi => (hk5 i (Nat.lt_of_lt_of_le hi HBEL.out.size) (fun e => by have := HLO.out i e.symm; omega)).trans (HBEL.out.block i hi)⟩
    have hv2 : Bx w2 w.heap.size 51 [v] := (hk5 _ HV.out.lt (fun e => by
      obtain ⟨cur, hc⟩ := HTY.out _ e.symm
      rw [show w'.heap[w.heap.size]? = _ from HV.out] at hc
      cases hc)).trans HV.out
    have hD2 : ∀ D ∈ Ds, w.heap.size < D ∧ w2.heap[D]? = some (.deferred (some [])) := fun D hD => by
      obtain ⟨h1, h2⟩ := HDS.out D hD
      refine ⟨h1, (hk5 D (Array.getElem?_eq_some_iff.1 h2).1 (fun e => ?_)).trans h2⟩
      obtain ⟨cur, hc⟩ := HTY.out _ e.symm
      rw [h2] at hc
      cases hc
    have hmk : ∀ x ∈ k, mayS x := fun x hx => (mayB_iff x).1 (List.mem_filter.1 (hkp.mem_iff.1 hx)).2
    have hkl : k.length ≤ 100000 := by rw [hkp.length_eq]; exact hgl
    have HNR := Lib.hid (fun i => joinAll_normal hmk hkr i)
    have HJK := Lib.hid (join_sorted hkp hkr)
    obtain ⟨_, ra, rc, rfl, hrc, hrm, hrb⟩ := id hks
    unfold maxLen at hrm
    have hks2 := hks.isD (Nat.le_refl _)
    have HKS := Lib.hid hks2
    have HB2 := Lib.hid hB2
    have HD2 := Lib.hid hD2
    have c2 : w2.cell? ⟨w.heap.size, 0, none⟩ = some (.slice ra k.length rc) := by rw [hv2.cell]; rfl
    have HJ0 := Lib.hid (World.ownsRow_nil w2 w2.heap.size 27 2 : w2.ownsRow w2.heap.size 27 2 (.slice none 0 0) (joinAll (k.take 0)).length ((joinAll (k.take 0)).flatMap sR))
    have hw2 : w.heap.size ≤ w2.heap.size := hB2.size
    clear hrb hks hks2 hkp hkr hmk hB2 hD2 hv2 HS HV HLO HTY HBEL HDS hk1 hk2 hk3 hk4 hk5 cv hgl HN
    gi_wp2
    clear c2
    gi_loopw [7, 29] (fun vj r wr => ∃ (i : Nat), r = .int .i64 (i : Int) ∧ i ≤ k.length ∧ wr.ownsRow w2.heap.size 27 2 vj (joinAll (k.take i)).length ((joinAll (k.take i)).flatMap sR) ∧ Below w2.heap.size w2 wr) (fun _ r _ => k.length - intOf9 r)
    case atStart => exact ⟨0, rfl, Nat.zero_le _, HJ0.out, Below.refl _ _⟩
    case round =>
      obtain ⟨i, rfl, hi, hown, hbel⟩ := hrel
      by_cases hik : i < k.length
      · have hiki : (i : Int) < (k.length : Int) := by omega
        obtain ⟨x, hx⟩ : ∃ x, k[i]? = some x := ⟨k[i], List.getElem?_eq_getElem hik⟩
        have hkd := HKS.out.up hbel
        obtain ⟨rb, rk, hra, hrbl⟩ : ∃ rb rk, ra = some ⟨rb, rk, none⟩ ∧ rb < w2.heap.size := by
          obtain ⟨a2, c2, e, _, _, h4⟩ := HKS.out
          obtain ⟨b, kk2, e1, _, e2, _⟩ := h4 (by omega)
          simp only [Value.slice.injEq] at e
          exact ⟨b, kk2, by rw [e.1, e1], e2⟩
        subst hra
        have RX := Lib.hid (hkd.isS.range i x hx)
        have hnext := joinAll_next hx
        have hnorm := HNR.out i
        have hlenj := joinAll_take k i
        have hlenj2 := joinAll_take k (i + 1)
        rw [hnext] at hlenj2
        have HNEXT := Lib.hid hnext
        clear hnext hkd hx
        generalize joinAll (k.take i) = jn at *
        have hbN : Below wr.heap.size wr (wr.alloc (.cells (sR x).toArray 27)) := (Below.refl _ _).alloc (Nat.le_refl _) _
        have HNN := Lib.hid (Bx.new wr 27 (sR x))
        have HON := Lib.hid (own_below hown hbN)
        have HBN := Lib.hid (below_up hbel hbN hbel.size)
        have hwsz : wr.heap.size < (wr.alloc (.cells (sR x).toArray 27)).heap.size := by simp
        have hbw := hbel.size
        obtain ⟨ti, hti, htz, hts, htb⟩ := info_parts sp_infoF
        cases hg : jn.getLast? with
        | none =>
          obtain rfl : jn = [] := List.getLast?_eq_none_iff.1 hg
          obtain ⟨ua, uc, rfl⟩ : ∃ ua uc, u7 = .slice ua 0 uc := by
            rcases hown.2 with ⟨h1, _⟩ | ⟨g, cap, cur, h1, _⟩
            · exact ⟨none, 0, h1⟩
            · exact ⟨_, cap, h1⟩
          clear hown hbel hbN hg
          gi_wp2_with (first
            | (refine inV rfl (by intro c h; cases h) rfl (sV x) (exec_load_any _ (.tmp 31) rfl rb (rk + i * 2) (sR x) _ rfl RX.out Try.underlying27 rfl sp_info) ?_)
            | (refine inS rfl (by intro c h; cases h) rfl (exec_store_fresh _ (.tmp 9) (.tmp 32) rfl (sR x) _ wr.heap.size rfl rfl rfl sp_info rfl (sR_one x)) ?_; refine Hid.out ?_))
          refine Lib.hid ?_
          generalize wr.alloc (.cells (sR x).toArray 27) = WN at *
          gi_wp2
          refine wpIn_wide.2 ?_
          refine wp_region_noPanic ?_
          refine wp_region_held_drew (S := HeldN) (by kernel_rfl) trivial (fun hHeld => ?_)
          refine held_take (v := ?v320) 0 rfl (by kernel_rfl) (by kernel_rfl) (by kernel_rfl) (fun _ _ _ h => h) (by rfl) ?y320 (by assumption) ?_
          case y320 => (intro w hSw; unfold HeldN at hSw; go_simp; (try with_reducible rfl); (try omega))
          simp only [List.setIfInBounds_toArray, List.set_cons_zero, List.set_cons_succ]
          refine held_take (v := ?v323) 1 rfl (by kernel_rfl) (by kernel_rfl) (by kernel_rfl) (fun _ _ _ h => h) (by rfl) ?y323 (by assumption) ?_
          case y323 => (intro w hSw; unfold HeldN at hSw; go_simp; (try with_reducible rfl); (try omega))
          simp only [List.setIfInBounds_toArray, List.set_cons_zero, List.set_cons_succ]
          refine held_take (v := ?v326) 2 rfl (by kernel_rfl) (by kernel_rfl) (by kernel_rfl) (fun _ _ _ h => h) (by rfl) ?y326 (by assumption) ?_
          case y326 => (intro w hSw; unfold HeldN at hSw; go_simp; (try with_reducible rfl); (try omega))
          simp only [List.setIfInBounds_toArray, List.set_cons_zero, List.set_cons_succ]
          refine held_skip 3 rfl (by kernel_rfl) (by kernel_rfl) (by kernel_rfl) (fun _ _ _ h => h) (by rfl) (by assumption) ?_
          simp only [List.setIfInBounds_toArray, List.set_cons_zero, List.set_cons_succ]
          refine held_skip 4 rfl (by kernel_rfl) (by kernel_rfl) (by kernel_rfl) (fun _ _ _ h => h) (by rfl) (by assumption) ?_
          simp only [List.setIfInBounds_toArray, List.set_cons_zero, List.set_cons_succ]
          refine held_skip 5 rfl (by kernel_rfl) (by kernel_rfl) (by kernel_rfl) (fun _ _ _ h => h) (by rfl) (by assumption) ?_
          simp only [List.setIfInBounds_toArray, List.set_cons_zero, List.set_cons_succ]
          refine held_skip 6 rfl (by kernel_rfl) (by kernel_rfl) (by kernel_rfl) (fun _ _ _ h => h) (by rfl) (by assumption) ?_
          simp only [List.setIfInBounds_toArray, List.set_cons_zero, List.set_cons_succ]
          refine held_skip 7 rfl (by kernel_rfl) (by kernel_rfl) (by kernel_rfl) (fun _ _ _ h => h) (by rfl) (by assumption) ?_
          simp only [List.setIfInBounds_toArray, List.set_cons_zero, List.set_cons_succ]
          refine held_skip 8 rfl (by kernel_rfl) (by kernel_rfl) (by kernel_rfl) (fun _ _ _ h => h) (by rfl) (by assumption) ?_
          simp only [List.setIfInBounds_toArray, List.set_cons_zero, List.set_cons_succ]
          refine held_skip 9 rfl (by kernel_rfl) (by kernel_rfl) (by kernel_rfl) (fun _ _ _ h => h) (by rfl) (by assumption) ?_
          simp only [List.setIfInBounds_toArray, List.set_cons_zero, List.set_cons_succ]
          refine held_skip 10 rfl (by kernel_rfl) (by kernel_rfl) (by kernel_rfl) (fun _ _ _ h => h) (by rfl) (by assumption) ?_
          simp only [List.setIfInBounds_toArray, List.set_cons_zero, List.set_cons_succ]
          refine held_skip 11 rfl (by kernel_rfl) (by kernel_rfl) (by kernel_rfl) (fun _ _ _ h => h) (by rfl) (by assumption) ?_
          simp only [List.setIfInBounds_toArray, List.set_cons_zero, List.set_cons_succ]
          refine held_take (v := ?v347) 12 rfl (by kernel_rfl) (by kernel_rfl) (by kernel_rfl) (fun _ _ _ h => h) (by rfl) ?y347 (by assumption) ?_
          case y347 => (intro w hSw; unfold HeldN at hSw; go_simp; (try with_reducible rfl); (try omega))
          simp only [List.setIfInBounds_toArray, List.set_cons_zero, List.set_cons_succ]
          refine wpAnyH_done (by kernel_rfl) ?_ _
          refine NoPanic.normal ?_
          have hbD : Below WN.heap.size WN WN.drew := (Below.refl _ _).drew
          have HN3 := Lib.hid (HNN.out.up hbD)
          have HO3 := Lib.hid (own_below HON.out hbD)
          have HB3 := Lib.hid (below_up HBN.out hbD HBN.out.size)
          have hsz3 : wr.heap.size < WN.drew.heap.size := hwsz
          clear hbD HNN HON HBN
          generalize WN.drew = WD at *
          have RB := Lib.hid (rangeAll HN3.out)
          have hbA : Below WD.heap.size WD (WD.alloc (.cells (sR x).toArray 27)) := (Below.refl _ _).alloc (Nat.le_refl _) _
          have HROWA := Lib.hid (own_below HO3.out hbA)
          have HBNA := Lib.hid (Bx.new WD 27 (sR x))
          have hszA : (WD.alloc (.cells (sR x).toArray 27)).heap.size = WD.heap.size + 1 := by simp
          have hszB := HB3.out.size
          clear hbA
          gi_wp2_with (first
            | (refine inV rfl (by intro c h; cases h) rfl (sV x) (exec_load_any _ (.tmp 9) rfl wr.heap.size 0 (sR x) _ rfl RB.out Try.underlying27 rfl sp_info) ?_)
            | (refine inV rfl (by intro c h; cases h) rfl (.slice (some ⟨WD.heap.size, 0, none⟩) 1 1) (exec_one_sp (.tmp 62) rfl x rfl) ?_)
            | (gi_at_builtin; refine wpListIn_append_own _ rfl _ _ 51 rfl w2.heap.size 27 ti (sV ⟨0, 0⟩) 2 16 Try.underlying51 hti htz hts htb rfl (by decide) _ _ _ rfl HROWA.out ⟨WD.heap.size, 0, none⟩ 1 1 (sR x) rfl rfl (fun j u hj => World.news_of_block HBNA.out j u (by simpa using hj)) (sR_one x) (by unfold maxLen; omega) (by omega) (by omega) ?_; intro v' w1 hownA hgrA _; refine Hid.out ?_))
          refine Lib.hid ?_
          obtain ⟨g', cap', rfl⟩ := ownsRow_succ hownA
          have HOA := Lib.hid hownA
          have HBA := Lib.hid ((below_up HB3.out ((Below.refl WD.heap.size WD).alloc (Nat.le_refl _) (.cells (sR x).toArray 27)) HB3.out.size).grown hgrA (by omega) (fun k e => owned_low HROWA.out k e))
          clear hownA hgrA HROWA HBNA RB
          gi_wp2
          go_roundw
          case rel => exact ⟨i + 1, rfl, hik, by rw [HNEXT.out, show joinS [] x = [x] from rfl]; simpa using HOA.out, HBA.out⟩
          case measure => simp only [intOf9]; omega
        | some y =>
          have hsp := last_split hg
          obtain ⟨m, hm⟩ : ∃ m, jn.dropLast = m := ⟨_, rfl⟩
          rw [hm] at hsp
          subst hsp
          have hJ : joinS (m ++ [y]) x = if x.f ≤ y.l + 1 then m ++ [⟨y.f, max y.l x.l⟩] else (m ++ [y]) ++ [x] := by
            unfold joinS
            rw [hg]
            simp only
            rw [hm]
          have hym : mayS y := ((normal_snoc m y).1 hnorm).2.1
          unfold mayS at hym
          obtain ⟨E, hE⟩ : ∃ E, m.length = E := ⟨_, rfl⟩
          obtain ⟨N, hN⟩ : ∃ N, E + 1 = N := ⟨_, rfl⟩
          have hmN : (m ++ [y]).length = N := by rw [List.length_append, hE]; exact hN
          rw [hmN] at hlenj HON hown
          obtain ⟨gj, cj, rfl⟩ : ∃ gj cj, u7 = .slice (some ⟨gj, 0, none⟩) N cj := by rw [← hN] at hown ⊢; exact ownsRow_succ hown
          have hgjw : gj < wr.heap.size := by
            rcases hown.2 with ⟨h1, _⟩ | ⟨g, cap, cur, h1, _, h2, _⟩
            · cases h1
            · cases h1; exact (Array.getElem?_eq_some_iff.1 h2).1
          have kw : IntKind.i64.wrap ((N : Int) - 1) = (E : Int) := by simp [IntKind.wrap, IntKind.bits, IntKind.signed]; omega
          have hE0 : (0 : Int) ≤ (E : Int) := by omega
          have hEN : (E : Int) < (N : Int) := by omega
          have ky : IntKind.i64.wrap (y.l + 1) = y.l + 1 := by simp [IntKind.wrap, IntKind.bits, IntKind.signed]; omega
          have HYM := Lib.hid hym
          have HE := Lib.hid hE
          have HEN := Lib.hid hN
          have HJ := Lib.hid hJ
          clear hown hbel hbN hg hm hym hE hN hJ hnorm
          gi_wp2_with (first
            | (refine inV rfl (by intro c h; cases h) rfl (sV x) (exec_load_any _ (.tmp 31) rfl rb (rk + i * 2) (sR x) _ rfl RX.out Try.underlying27 rfl sp_info) ?_)
            | (refine inS rfl (by intro c h; cases h) rfl (exec_store_fresh _ (.tmp 9) (.tmp 32) rfl (sR x) _ wr.heap.size rfl rfl rfl sp_info rfl (sR_one x)) ?_; refine Hid.out ?_))
          refine Lib.hid ?_
          generalize wr.alloc (.cells (sR x).toArray 27) = WN at *
          gi_wp2
          have hbD : Below WN.heap.size WN WN.drew := (Below.refl _ _).drew
          have HN3 := Lib.hid (HNN.out.up hbD)
          have HO3 := Lib.hid (own_below HON.out hbD)
          have HB3 := Lib.hid (below_up HBN.out hbD HBN.out.size)
          have hsz3 : wr.heap.size < WN.drew.heap.size := hwsz
          have hyc : ∀ W : World, W.ownsRow w2.heap.size 27 2 (.slice (some ⟨gj, 0, none⟩) N cj) N ((m ++ [y]).flatMap sR) → W.cell? ⟨gj, E * 2 + 1, none⟩ = some (.int .i64 y.l) := fun W hW => by
            rw [← hmN] at hW
            have h1 := rng1 (IsS.range (IsC.of_owned (sR_all _) hW) m.length y (by simp))
            rw [HE.out] at h1
            simpa using h1
          have hHJ : HeldJ wr.heap.size gj (E * 2 + 1) x.f y.l WN.drew := ⟨by rw [HN3.out.cell]; rfl, hyc _ HO3.out⟩
          refine wpIn_wide.2 ?_
          refine wp_region_noPanic ?_
          refine wp_region_held_drew (S := HeldJ wr.heap.size gj (E * 2 + 1) x.f y.l) (by kernel_rfl) hHJ (fun hHeld => ?_)
          clear hHJ hbD HNN HON HBN
          generalize WN.drew = WD at *
          by_cases hc : x.f ≤ y.l + 1
          · have hcd : decide (x.f ≤ y.l + 1) = true := decide_eq_true hc
            have HC := Lib.hid hc
            clear hc
            refine held_take (v := ?v435) 0 rfl (by kernel_rfl) (by kernel_rfl) (by kernel_rfl) (fun _ _ _ h => h) (by rfl) ?y435 (by assumption) ?_
            case y435 => (intro w hSw; unfold HeldJ at hSw; go_simp; (try with_reducible rfl); (try omega))
            simp only [List.setIfInBounds_toArray, List.set_cons_zero, List.set_cons_succ]
            refine held_take (v := ?v438) 1 rfl (by kernel_rfl) (by kernel_rfl) (by kernel_rfl) (fun _ _ _ h => h) (by rfl) ?y438 (by assumption) ?_
            case y438 => (intro w hSw; unfold HeldJ at hSw; go_simp; (try with_reducible rfl); (try omega))
            simp only [List.setIfInBounds_toArray, List.set_cons_zero, List.set_cons_succ]
            refine held_take (v := ?v441) 2 rfl (by kernel_rfl) (by kernel_rfl) (by kernel_rfl) (fun _ _ _ h => h) (by rfl) ?y441 (by assumption) ?_
            case y441 => (intro w hSw; unfold HeldJ at hSw; go_simp; (try with_reducible rfl); (try omega))
            simp only [List.setIfInBounds_toArray, List.set_cons_zero, List.set_cons_succ]
            refine held_take (v := ?v444) 3 rfl (by kernel_rfl) (by kernel_rfl) (by kernel_rfl) (fun _ _ _ h => h) (by rfl) ?y444 (by assumption) ?_
            case y444 => (intro w hSw; unfold HeldJ at hSw; go_simp; (try with_reducible rfl); (try omega))
            simp only [List.setIfInBounds_toArray, List.set_cons_zero, List.set_cons_succ]
            refine held_take (v := ?v447) 4 rfl (by kernel_rfl) (by kernel_rfl) (by kernel_rfl) (fun _ _ _ h => h) (by rfl) ?y447 (by assumption) ?_
            case y447 => (intro w hSw; unfold HeldJ at hSw; go_simp; (try with_reducible rfl); (try omega))
            simp only [List.setIfInBounds_toArray, List.set_cons_zero, List.set_cons_succ]
            refine held_take (v := ?v450) 5 rfl (by kernel_rfl) (by kernel_rfl) (by kernel_rfl) (fun _ _ _ h => h) (by rfl) ?y450 (by assumption) ?_
            case y450 => (intro w hSw; unfold HeldJ at hSw; go_simp; (try with_reducible rfl); (try omega))
            simp only [List.setIfInBounds_toArray, List.set_cons_zero, List.set_cons_succ]
            refine held_take (v := ?v453) 6 rfl (by kernel_rfl) (by kernel_rfl) (by kernel_rfl) (fun _ _ _ h => h) (by rfl) ?y453 (by assumption) ?_
            case y453 => (intro w hSw; unfold HeldJ at hSw; go_simp; (try with_reducible rfl); (try omega))
            simp only [List.setIfInBounds_toArray, List.set_cons_zero, List.set_cons_succ]
            refine held_take (v := ?v456) 7 rfl (by kernel_rfl) (by kernel_rfl) (by kernel_rfl) (fun _ _ _ h => h) (by rfl) ?y456 (by assumption) ?_
            case y456 => (intro w hSw; unfold HeldJ at hSw; go_simp; (try with_reducible rfl); (try omega))
            simp only [List.setIfInBounds_toArray, List.set_cons_zero, List.set_cons_succ]
            refine held_take (v := ?v459) 8 rfl (by kernel_rfl) (by kernel_rfl) (by kernel_rfl) (fun _ _ _ h => h) (by rfl) ?y459 (by assumption) ?_
            case y459 => (intro w hSw; unfold HeldJ at hSw; go_simp; (try with_reducible rfl); (try omega))
            simp only [List.setIfInBounds_toArray, List.set_cons_zero, List.set_cons_succ]
            refine held_take (v := ?v462) 9 rfl (by kernel_rfl) (by kernel_rfl) (by kernel_rfl) (fun _ _ _ h => h) (by rfl) ?y462 (by assumption) ?_
            case y462 => (intro w hSw; unfold HeldJ at hSw; go_simp; (try with_reducible rfl); (try omega))
            simp only [List.setIfInBounds_toArray, List.set_cons_zero, List.set_cons_succ]
            refine held_take (v := .int .i64 (y.l + 1)) 10 rfl (by kernel_rfl) (by kernel_rfl) (by kernel_rfl) (fun _ _ _ h => h) (by rfl) (fun W hSw => (by go_simp; (try exact ky))) (by assumption) ?_
            simp only [List.setIfInBounds_toArray, List.set_cons_zero, List.set_cons_succ]
            refine held_take (v := ?v467) 11 rfl (by kernel_rfl) (by kernel_rfl) (by kernel_rfl) (fun _ _ _ h => h) (by rfl) ?y467 (by assumption) ?_
            case y467 => (intro w hSw; unfold HeldJ at hSw; go_simp; (try with_reducible rfl); (try omega))
            simp only [List.setIfInBounds_toArray, List.set_cons_zero, List.set_cons_succ]
            refine held_take (v := ?v470) 12 rfl (by kernel_rfl) (by kernel_rfl) (by kernel_rfl) (fun _ _ _ h => h) (by rfl) ?y470 (by assumption) ?_
            case y470 => (intro w hSw; unfold HeldJ at hSw; go_simp; (try with_reducible rfl); (try omega))
            simp only [List.setIfInBounds_toArray, List.set_cons_zero, List.set_cons_succ]
            refine wpAnyH_done (by kernel_rfl) ?_ _
            refine NoPanic.normal ?_
            gi_wp2
            have hb1 : Below WD.heap.size WD WD.drew := (Below.refl _ _).drew
            have HN4 := Lib.hid (HN3.out.up hb1)
            have HO4 := Lib.hid (own_below HO3.out hb1)
            have HB4 := Lib.hid (below_up HB3.out hb1 HB3.out.size)
            clear hb1 HN3 HO3 HB3 hHeld
            refine wpIn_wide.2 ?_
            refine wp_region_noPanic ?_
            refine wp_region_held_drew (S := HeldC wr.heap.size x.l) (by kernel_rfl) (by unfold HeldC; rw [HN4.out.cell]; rfl) (fun hHeld => ?_)
            generalize WD.drew = WE at *
            have c55 : WE.cell? ⟨gj, E * 2 + 1, none⟩ = some (.int .i64 y.l) := hyc _ HO4.out
            have f60 : WE.frozen? ⟨gj, E * 2 + 1, none⟩ = false := by
              rcases HO4.out.2 with ⟨h1, _⟩ | ⟨g, cap, cur, h1, _, h2, _⟩
              · cases h1
              · cases h1; exact frozen_of_row WE _ _ _ _ h2
            refine held_take (v := ?v490) 0 rfl (by kernel_rfl) (by kernel_rfl) (by kernel_rfl) (fun _ _ _ h => h) (by rfl) ?y490 (by assumption) ?_
            case y490 => (intro w hSw; unfold HeldC at hSw; go_simp; (try with_reducible rfl); (try omega))
            simp only [List.setIfInBounds_toArray, List.set_cons_zero, List.set_cons_succ]
            refine held_take (v := ?v493) 1 rfl (by kernel_rfl) (by kernel_rfl) (by kernel_rfl) (fun _ _ _ h => h) (by rfl) ?y493 (by assumption) ?_
            case y493 => (intro w hSw; unfold HeldC at hSw; go_simp; (try with_reducible rfl); (try omega))
            simp only [List.setIfInBounds_toArray, List.set_cons_zero, List.set_cons_succ]
            refine held_take (v := ?v496) 2 rfl (by kernel_rfl) (by kernel_rfl) (by kernel_rfl) (fun _ _ _ h => h) (by rfl) ?y496 (by assumption) ?_
            case y496 => (intro w hSw; unfold HeldC at hSw; go_simp; (try with_reducible rfl); (try omega))
            simp only [List.setIfInBounds_toArray, List.set_cons_zero, List.set_cons_succ]
            refine held_take (v := ?v499) 3 rfl (by kernel_rfl) (by kernel_rfl) (by kernel_rfl) (fun _ _ _ h => h) (by rfl) ?y499 (by assumption) ?_
            case y499 => (intro w hSw; unfold HeldC at hSw; go_simp; (try with_reducible rfl); (try omega))
            simp only [List.setIfInBounds_toArray, List.set_cons_zero, List.set_cons_succ]
            refine held_take (v := ?v502) 4 rfl (by kernel_rfl) (by kernel_rfl) (by kernel_rfl) (fun _ _ _ h => h) (by rfl) ?y502 (by assumption) ?_
            case y502 => (intro w hSw; unfold HeldC at hSw; go_simp; (try with_reducible rfl); (try omega))
            simp only [List.setIfInBounds_toArray, List.set_cons_zero, List.set_cons_succ]
            refine held_take (v := ?v505) 5 rfl (by kernel_rfl) (by kernel_rfl) (by kernel_rfl) (fun _ _ _ h => h) (by rfl) ?y505 (by assumption) ?_
            case y505 => (intro w hSw; unfold HeldC at hSw; go_simp; (try with_reducible rfl); (try omega))
            simp only [List.setIfInBounds_toArray, List.set_cons_zero, List.set_cons_succ]
            refine held_take (v := ?v508) 7 rfl (by kernel_rfl) (by kernel_rfl) (by kernel_rfl) (fun _ _ _ h => h) (by rfl) ?y508 (by assumption) ?_
            case y508 => (intro w hSw; unfold HeldC at hSw; go_simp; (try with_reducible rfl); (try omega))
            simp only [List.setIfInBounds_toArray, List.set_cons_zero, List.set_cons_succ]
            refine held_take (v := ?v511) 8 rfl (by kernel_rfl) (by kernel_rfl) (by kernel_rfl) (fun _ _ _ h => h) (by rfl) ?y511 (by assumption) ?_
            case y511 => (intro w hSw; unfold HeldC at hSw; go_simp; (try with_reducible rfl); (try omega))
            simp only [List.setIfInBounds_toArray, List.set_cons_zero, List.set_cons_succ]
            refine held_one 6 rfl (by kernel_rfl) (by rfl) (fun K hK => ?_)
            refine wp_of_value (v := .int .i64 y.l) (w' := WE) (by go_simp) ?_
            refine hK.out _ _ hHeld (fun _ => ?_)
            simp only [List.setIfInBounds_toArray, List.set_cons_zero, List.set_cons_succ]
            clear hK K
            refine held_take (v := ?v519) 9 rfl (by kernel_rfl) (by kernel_rfl) (by kernel_rfl) (fun _ _ _ h => h) (by rfl) ?y519 (by assumption) ?_
            case y519 => (intro w hSw; unfold HeldC at hSw; go_simp; (try with_reducible rfl); (try omega))
            simp only [List.setIfInBounds_toArray, List.set_cons_zero, List.set_cons_succ]
            refine held_take (v := ?v522) 10 rfl (by kernel_rfl) (by kernel_rfl) (by kernel_rfl) (fun _ _ _ h => h) (by rfl) ?y522 (by assumption) ?_
            case y522 => (intro w hSw; unfold HeldC at hSw; go_simp; (try with_reducible rfl); (try omega))
            simp only [List.setIfInBounds_toArray, List.set_cons_zero, List.set_cons_succ]
            refine held_take (v := ?v525) 11 rfl (by kernel_rfl) (by kernel_rfl) (by kernel_rfl) (fun _ _ _ h => h) (by rfl) ?y525 (by assumption) ?_
            case y525 => (intro w hSw; unfold HeldC at hSw; go_simp; (try with_reducible rfl); (try omega))
            simp only [List.setIfInBounds_toArray, List.set_cons_zero, List.set_cons_succ]
            refine held_none 12 rfl (by kernel_rfl) (by rfl) (fun K hK => ?_)
            refine wp_of_skip (w' := WE.setCell ⟨gj, E * 2 + 1, none⟩ (.int .i64 (max y.l x.l))) (by go_simp) ?_
            refine hK.out _ _ (by unfold HeldC; rw [(HN4.out.setOther (k := gj) (by omega) _ _).cell]; rfl) (fun _ => ?_)
            clear hK K
            (try simp only [Act.put])
            have HO5 := Lib.hid ((HO4.out.stored (E * 2 + 1) (.int .i64 (max y.l x.l))).1)
            have HB5 := Lib.hid (HB4.out.setCell (p := ⟨gj, E * 2 + 1, none⟩) (owned_low HO4.out gj rfl) (.int .i64 (max y.l x.l)))
            have hfl : ((m ++ [y]).flatMap sR).set (E * 2 + 1) (.int .i64 (max y.l x.l)) = (m ++ [(⟨y.f, max y.l x.l⟩ : Spn)]).flatMap sR := by
              have h1 := flat_set (c := 2) (m ++ [y]) (sR_all _) m.length 1 y ⟨y.f, max y.l x.l⟩ (.int .i64 (max y.l x.l)) (by simp) (by omega) rfl
              rw [HE.out] at h1
              rw [h1, ← HE.out]
              simp
            rw [hfl] at HO5
            have hln : (m ++ [(⟨y.f, max y.l x.l⟩ : Spn)]).length = N := by rw [← hmN]; simp
            have HLN := Lib.hid hln
            clear hfl hln c55 f60 HO4 HB4 hHeld HN4
            generalize WE.setCell ⟨gj, E * 2 + 1, none⟩ (.int .i64 (max y.l x.l)) = WF at HO5 HB5 ⊢
            refine wpAnyH_done (by kernel_rfl) ?_ _
            refine NoPanic.normal ?_
            gi_wp2
            go_roundw
            case rel => exact ⟨i + 1, rfl, hik, by rw [HNEXT.out, HJ.out, if_pos HC.out, HLN.out]; exact HO5.out, HB5.out⟩
            case measure => simp only [intOf9]; omega
          · have hcd : decide (x.f ≤ y.l + 1) = false := decide_eq_false hc
            have HC := Lib.hid hc
            clear hc
            refine held_take (v := ?v554) 0 rfl (by kernel_rfl) (by kernel_rfl) (by kernel_rfl) (fun _ _ _ h => h) (by rfl) ?y554 (by assumption) ?_
            case y554 => (intro w hSw; unfold HeldJ at hSw; go_simp; (try with_reducible rfl); (try omega))
            simp only [List.setIfInBounds_toArray, List.set_cons_zero, List.set_cons_succ]
            refine held_take (v := ?v557) 1 rfl (by kernel_rfl) (by kernel_rfl) (by kernel_rfl) (fun _ _ _ h => h) (by rfl) ?y557 (by assumption) ?_
            case y557 => (intro w hSw; unfold HeldJ at hSw; go_simp; (try with_reducible rfl); (try omega))
            simp only [List.setIfInBounds_toArray, List.set_cons_zero, List.set_cons_succ]
            refine held_take (v := ?v560) 2 rfl (by kernel_rfl) (by kernel_rfl) (by kernel_rfl) (fun _ _ _ h => h) (by rfl) ?y560 (by assumption) ?_
            case y560 => (intro w hSw; unfold HeldJ at hSw; go_simp; (try with_reducible rfl); (try omega))
            simp only [List.setIfInBounds_toArray, List.set_cons_zero, List.set_cons_succ]
            refine held_take (v := ?v563) 3 rfl (by kernel_rfl) (by kernel_rfl) (by kernel_rfl) (fun _ _ _ h => h) (by rfl) ?y563 (by assumption) ?_
            case y563 => (intro w hSw; unfold HeldJ at hSw; go_simp; (try with_reducible rfl); (try omega))
            simp only [List.setIfInBounds_toArray, List.set_cons_zero, List.set_cons_succ]
            refine held_take (v := ?v566) 4 rfl (by kernel_rfl) (by kernel_rfl) (by kernel_rfl) (fun _ _ _ h => h) (by rfl) ?y566 (by assumption) ?_
            case y566 => (intro w hSw; unfold HeldJ at hSw; go_simp; (try with_reducible rfl); (try omega))
            simp only [List.setIfInBounds_toArray, List.set_cons_zero, List.set_cons_succ]
            refine held_take (v := ?v569) 5 rfl (by kernel_rfl) (by kernel_rfl) (by kernel_rfl) (fun _ _ _ h => h) (by rfl) ?y569 (by assumption) ?_
            case y569 => (intro w hSw; unfold HeldJ at hSw; go_simp; (try with_reducible rfl); (try omega))
            simp only [List.setIfInBounds_toArray, List.set_cons_zero, List.set_cons_succ]
            refine held_take (v := ?v572) 6 rfl (by kernel_rfl) (by kernel_rfl) (by kernel_rfl) (fun _ _ _ h => h) (by rfl) ?y572 (by assumption) ?_
            case y572 => (intro w hSw; unfold HeldJ at hSw; go_simp; (try with_reducible rfl); (try omega))
            simp only [List.setIfInBounds_toArray, List.set_cons_zero, List.set_cons_succ]
            refine held_take (v := ?v575) 7 rfl (by kernel_rfl) (by kernel_rfl) (by kernel_rfl) (fun _ _ _ h => h) (by rfl) ?y575 (by assumption) ?_
            case y575 => (intro w hSw; unfold HeldJ at hSw; go_simp; (try with_reducible rfl); (try omega))
            simp only [List.setIfInBounds_toArray, List.set_cons_zero, List.set_cons_succ]
            refine held_take (v := ?v578) 8 rfl (by kernel_rfl) (by kernel_rfl) (by kernel_rfl) (fun _ _ _ h => h) (by rfl) ?y578 (by assumption) ?_
            case y578 => (intro w hSw; unfold HeldJ at hSw; go_simp; (try with_reducible rfl); (try omega))
            simp only [List.setIfInBounds_toArray, List.set_cons_zero, List.set_cons_succ]
            refine held_take (v := ?v581) 9 rfl (by kernel_rfl) (by kernel_rfl) (by kernel_rfl) (fun _ _ _ h => h) (by rfl) ?y581 (by assumption) ?_
            case y581 => (intro w hSw; unfold HeldJ at hSw; go_simp; (try with_reducible rfl); (try omega))
            simp only [List.setIfInBounds_toArray, List.set_cons_zero, List.set_cons_succ]
            refine held_take (v := .int .i64 (y.l + 1)) 10 rfl (by kernel_rfl) (by kernel_rfl) (by kernel_rfl) (fun _ _ _ h => h) (by rfl) (fun W hSw => (by go_simp; (try exact ky))) (by assumption) ?_
            simp only [List.setIfInBounds_toArray, List.set_cons_zero, List.set_cons_succ]
            refine held_take (v := ?v586) 11 rfl (by kernel_rfl) (by kernel_rfl) (by kernel_rfl) (fun _ _ _ h => h) (by rfl) ?y586 (by assumption) ?_
            case y586 => (intro w hSw; unfold HeldJ at hSw; go_simp; (try with_reducible rfl); (try omega))
            simp only [List.setIfInBounds_toArray, List.set_cons_zero, List.set_cons_succ]
            refine held_take (v := ?v589) 12 rfl (by kernel_rfl) (by kernel_rfl) (by kernel_rfl) (fun _ _ _ h => h) (by rfl) ?y589 (by assumption) ?_
            case y589 => (intro w hSw; unfold HeldJ at hSw; go_simp; (try with_reducible rfl); (try omega))
            simp only [List.setIfInBounds_toArray, List.set_cons_zero, List.set_cons_succ]
            refine wpAnyH_done (by kernel_rfl) ?_ _
            refine NoPanic.normal ?_
            have RB := Lib.hid (rangeAll HN3.out)
            have hbA : Below WD.heap.size WD (WD.alloc (.cells (sR x).toArray 27)) := (Below.refl _ _).alloc (Nat.le_refl _) _
            have HROWA := Lib.hid (own_below HO3.out hbA)
            have HBNA := Lib.hid (Bx.new WD 27 (sR x))
            have hszA : (WD.alloc (.cells (sR x).toArray 27)).heap.size = WD.heap.size + 1 := by simp
            have hszB := HB3.out.size
            clear hbA
            gi_wp2_with (first
              | (refine inV rfl (by intro c h; cases h) rfl (sV x) (exec_load_any _ (.tmp 9) rfl wr.heap.size 0 (sR x) _ rfl RB.out Try.underlying27 rfl sp_info) ?_)
              | (refine inV rfl (by intro c h; cases h) rfl (.slice (some ⟨WD.heap.size, 0, none⟩) 1 1) (exec_one_sp (.tmp 62) rfl x rfl) ?_)
              | (gi_at_builtin; refine wpListIn_append_own _ rfl _ _ 51 rfl w2.heap.size 27 ti (sV ⟨0, 0⟩) 2 16 Try.underlying51 hti htz hts htb rfl (by decide) _ _ _ rfl HROWA.out ⟨WD.heap.size, 0, none⟩ 1 1 (sR x) rfl rfl (fun j u hj => World.news_of_block HBNA.out j u (by simpa using hj)) (sR_one x) (by unfold maxLen; omega) (by omega) (by omega) ?_; intro v' w1 hownA hgrA _; refine Hid.out ?_))
            refine Lib.hid ?_
            obtain ⟨g', cap', rfl⟩ := ownsRow_succ hownA
            have HOA := Lib.hid hownA
            have HBA := Lib.hid ((below_up HB3.out ((Below.refl WD.heap.size WD).alloc (Nat.le_refl _) (.cells (sR x).toArray 27)) HB3.out.size).grown hgrA (by omega) (fun k e => owned_low HROWA.out k e))
            clear hownA hgrA HROWA HBNA RB
            gi_wp2
            go_roundw
            case rel => exact ⟨i + 1, rfl, hik, by rw [HNEXT.out, HJ.out, if_neg (by have := HC.out; omega), List.length_append, hmN]; simpa using HOA.out, HBA.out⟩
            case measure => simp only [intOf9]; omega
      · have hke : k.length ≤ i := by omega
        have hiki : ¬ (i : Int) < (k.length : Int) := by omega
        rw [List.take_of_length_le hke, HJK.out] at hown
        have HO := Lib.hid hown
        have HBW := Lib.hid hbel
        clear hown hbel
        gi_wp2
        refine leaves_marks _ (fun W => results_tmp rfl _ _ _) w.heap.size (fun V => V.ownsRow w2.heap.size 27 2 u7 (normS (flatS ls)).length ((normS (flatS ls)).flatMap sR) ∧ Below w.heap.size w V)
          (fun V hV => ⟨u7, rfl, own_mono hV.1 hw2, hV.2⟩) (fun _ U V row h1 h2 h3 => ⟨own_from h1.1 h2 h3, ownFrom_below (β := Unit) (Nat.le_refl _) (Nat.le_refl _) () U V row h1.2 h2 h3⟩) Ds _ hnd
          (fun D hD => ⟨Nat.le_of_lt (HD2.out D hD).1, (HBW.out.block D (Array.getElem?_eq_some_iff.1 (HD2.out D hD).2).1).trans (HD2.out D hD).2⟩) ⟨HO.out, below_up HB2.out HBW.out hw2⟩
theorem together_any (vv : Value) (ls : List (Value × List Spn)) (w : World) (h : IsL w vv ls) (hl : ∀ p ∈ ls, IsS w p.1 p.2) (hN : (flatS ls).length ≤ 100000) (hM : ls.length ≤ 100000) :
    Calls Try.prog 80 #[vv] w fun e w' => ∃ v, e = .returned v ∧ IsS w' v (normS (flatS ls)) ∧ Below w.heap.size w w' :=
  (together_own vv ls w h hl hN hM).mono fun _ _ ⟨v, h1, h2, h3⟩ => ⟨v, h1, h2.isS, h3⟩
end Go.Proofs.Ytgelbeglffjdaaa

/- Get where a prefix may not be, Look of package lpm. -/
import Derived.Test.YtgimcapcnidjjaaTabC
namespace Go.Proofs.Ytgimcapcnidjjaa
open Go Go.RowKit Go.Shelf
attribute [local go_sem] Oper.semAt_some

set_option maxRecDepth 100000 in
set_option maxHeartbeats 4000000 in
theorem get_not (v : Value) (p : Pfx) (w : World) (hp : p.addr.length = 16)
    (HT : ∀ W, Below w.heap.size w W → Calls Try.prog 53 #[v, p.val] W fun e w' => e = .returned (.bool false) ∧ Below W.heap.size W w') :
    Calls Try.prog 38 #[v, p.val] w fun e w' => e = .returned (.tuple #[.int .i64 0, .bool false]) ∧ Below w.heap.size w w' := by
  have hz : GetI w p 0 false (((w.alloc (.cells p.row.toArray 25)).alloc (.cells #[.int .i64 0] 3)).alloc (.cells #[.bool false] 4)) := by
    refine ⟨((Bx.new w _ p.row).al _).al _, ?_, ?_, (((Below.refl _ _).alloc (Nat.le_refl _) _).alloc (by simp) _).alloc (by simp; omega) _⟩
    · have := (Bx.new (w.alloc (.cells p.row.toArray 25)) 3 [.int .i64 0]).al (.cells #[.bool false] 4)
      rwa [World.size_alloc] at this
    · have := Bx.new ((w.alloc (.cells p.row.toArray 25)).alloc (.cells #[.int .i64 0] 3)) 4 [.bool false]
      rwa [World.size_alloc, World.size_alloc] at this
  have HT2 := Lib.hid (HT _ hz.below)
  have HZ := Lib.hid hz
  have HP := Lib.hid hp
  have R0 := Lib.hid (rangeAll hz.r0)
  rw [show p.val = .agg p.row.toArray from rfl]
  clear hp hz HT
  go_enter Try.func38, Try.ntmps38
  go_wp2_with (first
    | (refine wpList_load_any rfl 25 (.tmp 3) rfl w.heap.size 0 p.row _ rfl R0.out Try.underlying25 rfl (pf_infoC HP.out) ?_)
    | (go_at_call 53; refine HT2.out.mono ?_; rintro e w1 ⟨rfl, b1⟩; refine Hid.out ?_))
  refine Lib.hid ?_
  have z1 := HZ.out.up b1
  have c1 : w1.cell? ⟨w.heap.size + 1, 0, none⟩ = some (.int .i64 0) := by rw [z1.r1.cell]; rfl
  have c2 : w1.cell? ⟨w.heap.size + 1 + 1, 0, none⟩ = some (.bool false) := by rw [z1.r2.cell]; rfl
  have y1 := z1.r1.frozen 0
  have y2 := z1.r2.frozen 0
  have HI := Lib.hid z1
  clear HZ HT2 b1 z1
  go_wp2
  have g1 := (HI.out.r1.set 0 (.int .i64 0)).setOther (k := w.heap.size + 1 + 1) (by omega) 0 (.bool false)
  have g2 := (HI.out.r2.setOther (k := w.heap.size + 1) (by omega) 0 (.int .i64 0)).set 0 (.bool false)
  have gb := (HI.out.below.setCell (p := ⟨w.heap.size + 1, 0, none⟩) (by simp) (.int .i64 0)).setCell (p := ⟨w.heap.size + 1 + 1, 0, none⟩) (by simp; omega) (.bool false)
  have d1 := (g1.cell 0).trans rfl
  have d2 := (g2.cell 0).trans rfl
  refine bodyPost_ret (v := .tuple #[.int .i64 0, .bool false]) (by simp [results, Try.results38, go_sem, d1, d2]) rfl ?_
  exact ⟨rfl, gb⟩
/-- Get of any table. -/
theorem get_any (T : Tb) (p : Pfx) (w : World) (X : Nat → Prop) (g : Nat) (h : TabM w X g T) (hp : p.addr.length = 16) (f : Nat) (items : List (Pfx × Int)) (hI : (chkP p && (p.six == T.six)) = true → aboveN f T.nds T.root p = some items) :
    Calls Try.prog 38 #[.pointer (some ⟨g, 0, none⟩), p.val] w fun e w' =>
      e = .returned (if (chkP p && (p.six == T.six)) = true then .tuple #[.int .i64 ((getI p items).getD 0), .bool (getI p items).isSome] else .tuple #[.int .i64 0, .bool false]) ∧ Below w.heap.size w w' := by
  cases ht : (chkP p && (p.six == T.six)) with
  | true =>
    rw [if_pos rfl]
    exact get_tab T p w X g h hp ht f items (hI ht)
  | false =>
    rw [if_neg (by simp)]
    refine get_not _ p w hp (fun W hW => ?_)
    have := takes_any T p W X g (by
      obtain ⟨gn, cap, vf, h⟩ := h
      exact ⟨gn, cap, vf, h.up hW⟩) hp
    rw [ht] at this
    exact this
theorem get_nil (p : Pfx) (w : World) (hp : p.addr.length = 16) :
    Calls Try.prog 38 #[.pointer none, p.val] w fun e w' => e = .returned (.tuple #[.int .i64 0, .bool false]) ∧ Below w.heap.size w w' :=
  get_not _ p w hp (fun W _ => takes_nil p W)
/-! A row written whole. -/
theorem keeps_setRow {W : World} {g : Nat} {c : Array Value} {t : TypeId} {z : Nat × Nat} (h : W.heap[g]? = some (.cells c t z)) (cs : Array Value) : KeepsOthers W (W.setRow g cs) :=
  ⟨by simp, fun k o hk hc => (setRow_other W g k cs (fun e => by rw [e, h] at hk; cases hk; cases hc)).trans hk⟩
theorem kp_setRow {O : Nat → Prop} (W : World) (g : Nat) (cs : Array Value) (h : O g) : KpO O W (W.setRow g cs) :=
  ⟨by simp, fun k _ _ _ ho hk => (setRow_other W g k cs (fun e => ho (by rw [e]; exact h))).trans hk⟩
theorem below_row {B : Nat} {w W : World} (h : Below B w W) {g : Nat} (hg : B ≤ g) (cs : Array Value) : Below B w (W.setRow g cs) :=
  ⟨h.os, h.tape, h.output, by simpa using h.size, fun k hk => (setRow_other W g k cs (by omega)).trans (h.block k hk)⟩
theorem Bx.rowOther {w : World} {g : Nat} {t : TypeId} {l : List Value} (h : Bx w g t l) {k : Nat} (hk : g ≠ k) (cs : Array Value) : Bx (w.setRow k cs) g t l := (setRow_other w k g cs hk).trans h
theorem exec_store_bx {ρ : Operand → Value} {o : Oper} {w : World} (ty : TypeId) (x y : Operand) (ho : o.op = .store ty x y) (g : Nat) (l m : List Value) (hx : ρ x = .pointer (some ⟨g, 0, none⟩)) (hy : ρ y = .agg l.toArray)
    (hg : Bx w g ty m) (hi : (Try.prog.info? ty).map (·.size) = some l.length) (hold : m.length = l.length) (h1 : ∀ v ∈ l, v.oneCell' = true) :
    (execOp ρ o).run Try.prog w = .ok .skip (w.setRow g l.toArray) := by
  unfold execOp
  have := run_storeVar_row (P := Try.prog) w g ty ty m.toArray l.toArray hg (by simpa using hi) (by simpa using hold) (all_oneCell_toArray h1)
  simp only [ho, hx, hy, Instr.storeAt, Instr.sureAddr, Sem.run_bind, Sem.run_pure, Result.andThen_ok, this]
/-! Look. -/
def it0 : Pfx × Int := (zeroP, 0)
def lastI (l : List (Pfx × Int)) : Pfx × Int := l.getLast?.getD it0
structure LookI (w : World) (a : List UInt8) (x : Pfx × Int) (b : Bool) (W : World) : Prop where
  r3 : Bx W w.heap.size 23 (byteVals a)
  r4 : Bx W (w.heap.size + 1) 44 (itR zeroP 0)
  r6 : Bx W (w.heap.size + 1 + 1) 44 (itR x.1 x.2)
  r7 : Bx W (w.heap.size + 1 + 1 + 1) 4 [.bool b]
  below : Below w.heap.size w W
theorem LookI.from {w : World} {a : List UInt8} {x : Pfx × Int} {b : Bool} {B : Nat} (hB : w.heap.size ≤ B) {X Y : World} {row : Option Nat} (h : LookI w a x b X) (hg : X.grownBy Y row) (hr : ∀ r, row = some r → B ≤ r ∧ ∃ o : Obj, X.heap[r]? = some o ∧ o.isCells = false) : LookI w a x b Y :=
  ⟨bx_from h.r3 hg hr, bx_from h.r4 hg hr, bx_from h.r6 hg hr, bx_from h.r7 hg hr, ownFrom_below (β := Unit) (Nat.le_refl _) hB () X Y row h.below hg hr⟩
theorem LookI.up {w : World} {a : List UInt8} {x : Pfx × Int} {b : Bool} {W W' : World} (h : LookI w a x b W) (hb : Below W.heap.size W W') : LookI w a x b W' := ⟨h.r3.up hb, h.r4.up hb, h.r6.up hb, h.r7.up hb, below_up h.below hb h.below.size⟩
theorem lookI_new (w : World) (a : List UInt8) : LookI w a it0 false ((((w.alloc (.cells (byteVals a).toArray 23)).alloc (.cells (itR zeroP 0).toArray 44)).alloc (.cells (itR zeroP 0).toArray 44)).alloc (.cells #[.bool false] 4)) := by
  refine ⟨(((Bx.new w _ (byteVals a)).al _).al _).al _, ?_, ?_, ?_, ((((Below.refl _ _).alloc (Nat.le_refl _) _).alloc (by simp) _).alloc (by simp; omega) _).alloc (by simp; omega) _⟩
  · have := ((Bx.new (w.alloc (.cells (byteVals a).toArray 23)) 44 (itR zeroP 0)).al (.cells (itR zeroP 0).toArray 44)).al (.cells #[.bool false] 4)
    rwa [World.size_alloc] at this
  · have := (Bx.new ((w.alloc (.cells (byteVals a).toArray 23)).alloc (.cells (itR zeroP 0).toArray 44)) 44 (itR zeroP 0)).al (.cells #[.bool false] 4)
    rwa [World.size_alloc, World.size_alloc] at this
  · have := Bx.new (((w.alloc (.cells (byteVals a).toArray 23)).alloc (.cells (itR zeroP 0).toArray 44)).alloc (.cells (itR zeroP 0).toArray 44)) 4 [.bool false]
    rwa [World.size_alloc, World.size_alloc, World.size_alloc] at this
def HeldQ9 (b : Nat) (l : List Value) (s : Bool) (W : World) : Prop := Bx W b 44 l ∧ W.cell? ⟨b + 1, 0, none⟩ = some (.bool s)
theorem results_it2 {fn : Func} {u v : Tmp} (h : fn.results = #[.cell u 44, .tmp v]) (tmps : Array Value) (w : World) (g : Nat) (p : Pfx) (x : Int) (f : p.addr.length = 16) (hp : tmps.getD u undef = .pointer (some ⟨g, 0, none⟩))
    (hg : Bx w g 44 (itR p x)) : (results fn tmps).run Try.prog w = .ok (.tuple #[itV p x, tmps.getD v undef]) w := by
  rw [results_cell_tmp h, hp]
  have := run_loadVar_row (P := Try.prog) w g _ _ (itR p x).toArray (0, 0) _ hg Try.underlying44 rfl (by simpa using it_infoC f x)
  simp only [asAddr, Sem.run_pure, Result.andThen_ok, this]
  rfl
def HeldL (b g : Nat) (s : Bool) (l : List Value) (W : World) : Prop := Bx W b 23 l ∧ W.cell? ⟨g, 0, none⟩ = some (.bool s)
set_option maxRecDepth 100000 in
set_option maxHeartbeats 4000000 in
theorem look_tab (T : Tb) (a : List UInt8) (w : World) (X : Nat → Prop) (g : Nat) (h : TabM w X g T) (ha : a.length = 16) (f : Nat) (items : List (Pfx × Int)) (hI : aboveN f T.nds T.root (ofP T.six a 128) = some items) :
    Calls Try.prog 36 #[.pointer (some ⟨g, 0, none⟩), arrV a] w fun e w' => e = .returned (.tuple #[itV (lastI items).1 (lastI items).2, .bool (!items.isEmpty)]) ∧ Below w.heap.size w w' := by
  have HZ := Lib.hid (lookI_new w a)
  have HTM := Lib.hid (h.up HZ.out.below)
  have HL := Lib.hid h.low
  have HA := Lib.hid ha
  have HO := Lib.hid (fun W => pof_any T.six a 128 W ha)
  have HOL := Lib.hid (of_len T.six a 128)
  rw [show arrV a = .agg (byteVals a).toArray from rfl]
  have ez : (#[.bool false, .int .u8 0, .int .u8 0, .int .u8 0, .int .u8 0, .int .u8 0, .int .u8 0, .int .u8 0, .int .u8 0, .int .u8 0, .int .u8 0, .int .u8 0, .int .u8 0, .int .u8 0, .int .u8 0, .int .u8 0, .int .u8 0, .int .i64 0, .int .i64 0] : Array Value) = (itR zeroP 0).toArray := rfl
  clear h ha
  refine (callsIn_wide (n := 5)).1 ?_
  refine callsIn_of_wp_marks Try.func36 rfl trivial ?_ rfl
  simp only [Try.ntmps36, List.size_toArray, List.length_cons, List.length_nil, Nat.reduceAdd, Nat.reduceSub, Array.replicate_succ, Array.replicate_zero, List.push_toArray, List.append_toArray, List.nil_append, List.cons_append]
  gi_wp2
  have z1 := HZ.out
  have t1 := HTM.out
  clear HZ HTM ez
  generalize (((w.alloc (.cells (byteVals a).toArray 23)).alloc (.cells (itR zeroP 0).toArray 44)).alloc (.cells (itR zeroP 0).toArray 44)).alloc (.cells #[.bool false] 4) = W1 at *
  obtain ⟨gn, cap, vf, tg⟩ := t1
  have hgl : g < w.heap.size := HL.out g tg.inG
  have HHL := Lib.hid (fun W (hb : Below W1.heap.size W1 W) => (⟨z1.r3.up hb, (tg.up hb).c0⟩ : HeldL w.heap.size g T.six (byteVals a) W))
  generalize T.six = s6 at *
  refine wpIn_wide.2 ?_
  refine wp_region_noPanic ?_
  refine wp_region_held_drew (S := HeldL w.heap.size g s6 (byteVals a)) (by kernel_rfl) (HHL.out _ (Below.refl _ _).drew) (fun hHeld => ?_)
  refine held_take (v := ?v132) 0 rfl (by kernel_rfl) (by kernel_rfl) (by kernel_rfl) (fun _ _ _ h => h) (by rfl) ?y132 (by assumption) ?_
  case y132 => (intro w hSw; unfold HeldL at hSw; go_simp; (try with_reducible rfl); (try omega))
  simp only [List.setIfInBounds_toArray, List.set_cons_zero, List.set_cons_succ]
  refine held_take (v := ?v135) 1 rfl (by kernel_rfl) (by kernel_rfl) (by kernel_rfl) (fun _ _ _ h => h) (by rfl) ?y135 (by assumption) ?_
  case y135 => (intro w hSw; unfold HeldL at hSw; go_simp; (try with_reducible rfl); (try omega))
  simp only [List.setIfInBounds_toArray, List.set_cons_zero, List.set_cons_succ]
  refine held_take (v := ?v138) 2 rfl (by kernel_rfl) (by kernel_rfl) (by kernel_rfl) (fun _ _ _ h => h) (by rfl) ?y138 (by assumption) ?_
  case y138 => (intro w hSw; unfold HeldL at hSw; go_simp; (try with_reducible rfl); (try omega))
  simp only [List.setIfInBounds_toArray, List.set_cons_zero, List.set_cons_succ]
  refine held_take (v := ?v141) 3 rfl (by kernel_rfl) (by kernel_rfl) (by kernel_rfl) (fun _ _ _ h => h) (by rfl) ?y141 (by assumption) ?_
  case y141 => (intro w hSw; unfold HeldL at hSw; go_simp; (try with_reducible rfl); (try omega))
  simp only [List.setIfInBounds_toArray, List.set_cons_zero, List.set_cons_succ]
  refine held_take (v := ?v144) 4 rfl (by kernel_rfl) (by kernel_rfl) (by kernel_rfl) (fun _ _ _ h => h) (by rfl) ?y144 (by assumption) ?_
  case y144 => (intro w hSw; unfold HeldL at hSw; go_simp; (try with_reducible rfl); (try omega))
  simp only [List.setIfInBounds_toArray, List.set_cons_zero, List.set_cons_succ]
  refine held_take (v := arrV a) 5 rfl (by kernel_rfl) (by kernel_rfl) (by kernel_rfl) (fun _ _ _ h => h) (by rfl) (fun W hSw => exec_load_any _ (.tmp 3) rfl w.heap.size 0 (byteVals a) _ rfl (rangeAll hSw.1) Try.underlying23 rfl (by rw [byteVals_length, HA.out]; exact arr16P.info)) (by assumption) ?_
  simp only [List.setIfInBounds_toArray, List.set_cons_zero, List.set_cons_succ]
  refine held_one 6 rfl (by kernel_rfl) (by rfl) (fun K hK => ?_)
  go_simp
  refine (HO.out _).mono ?_
  rintro e w1 ⟨rfl, b1⟩
  have hb1 : Below W1.heap.size W1 w1 := (Below.refl W1.heap.size W1).drew.trans b1
  have hH1 := HHL.out _ hb1
  have z2 := z1.up hb1
  have tg2 := tg.up hb1
  refine hK.out _ _ hH1 (fun _ => ?_)
  clear hK K b1 hHeld z1 tg
  generalize ofP s6 a 128 = q at *
  refine held_one 7 rfl (by kernel_rfl) (by rfl) (fun K hK => ?_)
  go_simp
  refine (callsIn_wide.1 (above_in 0 _ q _)).mono ?_
  rintro e w' ⟨rfl, rfl⟩
  have hbb : Below w1.heap.size w1 ((w1.alloc (.cells #[.pointer (some ⟨g, 0, none⟩)] 66)).alloc (.cells q.row.toArray 25)) := ((Below.refl _ _).alloc (Nat.le_refl _) (.cells #[.pointer (some ⟨g, 0, none⟩)] 66)).alloc (by simp) (.cells q.row.toArray 25)
  have hab := twoB_new w1 66 25 [.pointer (some ⟨g, 0, none⟩)] q.row
  have hsz2 : ((w1.alloc (.cells #[.pointer (some ⟨g, 0, none⟩)] 66)).alloc (.cells q.row.toArray 25)).heap.size = w1.heap.size + 2 := by simp
  have z3 := z2.up hbb
  have tg3 := tg2.up hbb
  have hsz1 : w.heap.size + 1 + 1 + 1 < w1.heap.size := z2.r7.lt
  refine hK.out _ _ (HHL.out _ (below_up hb1 hbb hb1.size)) (fun _ => ?_)
  clear hK K
  clear z2 tg2 hbb hb1 hH1 HHL
  generalize (w1.alloc (.cells #[.pointer (some ⟨g, 0, none⟩)] 66)).alloc (.cells q.row.toArray 25) = W0 at *
  (try simp only [Act.put, List.setIfInBounds_toArray, List.set_cons_zero, List.set_cons_succ])
  refine wpAnyH_done (by kernel_rfl) ?_ _
  refine NoPanic.normal ?_
  gi_wp2
  refine wpIn_rangeFunc_ownH (n := 5) rfl (by omega) (gf := 70) (lb := #[.pointer (some ⟨w1.heap.size, 0, none⟩), .pointer (some ⟨w1.heap.size + 1, 0, none⟩)]) rfl trivial (enters_of Try.func70 (by kernel_rfl) rfl)
    (above_stops 4 (by omega) w1.heap.size (w1.heap.size + 1) q HOL.out W0 X g T (fun k => k = w.heap.size + 1 + 1 ∨ k = w.heap.size + 1 + 1 + 1) f items hI ⟨_, _, _, tg3⟩ hab.1 hab.2.1
      (fun k hk => ⟨by omega, fun hx => by have := HL.out k hx; omega, by omega, by omega⟩))
    (fun h k => h.trans k) (fun W l o o' _ hl hc _ => KpO.put _ W l o o' hl hc) (Below.refl _ _) (fun _ => rfl)
    (fun pre W => LookI w a (lastI (itemsT pre)) (!(itemsT pre).isEmpty) W) (fun _ _ _ => False)
    (fun s X Y row h1 h2 h3 => LookI.from (by omega) h1 h2 h3)
    (fun c s X Y row h1 h2 h3 => h1.elim)
    z3
    (fun x a' W => ∃ B8, w.heap.size + 1 + 1 + 1 < B8 ∧ Bx W B8 44 (itR x.1.1 x.1.2) ∧ a' = { tmps := #[.pointer (some ⟨g, 0, none⟩), .agg (byteVals a).toArray, undef, .pointer (some ⟨w.heap.size, 0, none⟩), .pointer (some ⟨w.heap.size + 1, 0, none⟩), .bool false, .pointer (some ⟨w.heap.size + 1 + 1, 0, none⟩), .pointer (some ⟨w.heap.size + 1 + 1 + 1, 0, none⟩), .pointer (some ⟨B8, 0, none⟩), .pointer (some ⟨g, 0, none⟩), .bool false, undef, .pointer (some ⟨g, 0, none⟩), .pointer (some ⟨g, 0, none⟩), .pointer (some ⟨g, 0, none⟩), .pointer (some ⟨g, 0, none⟩), .bool s6, arrV a, q.val,
      .func (.func 70) #[] #[.pointer (some ⟨w1.heap.size, 0, none⟩), .pointer (some ⟨w1.heap.size + 1, 0, none⟩)], itV x.1.1 x.1.2, undef, undef, undef], defers := [] })
    (fun x a' s X Y row h1 h2 h3 => by obtain ⟨B8, e1, e2, e3⟩ := h1; exact ⟨B8, e1, bx_from e2 h2 h3, e3⟩)
    ?assign ?body ?done ?stop
  case assign =>
    rintro l pre x W K hi hK
    have hbb : Below W.heap.size W (W.alloc (.cells (itR x.1.1 x.1.2).toArray 44)) := (Below.refl _ _).alloc (Nat.le_refl _) _
    gi_wp2_with (refine inS rfl (by intro c h; cases h) rfl (exec_store_fresh _ (.tmp 8) (.tmp 20) rfl (itR x.1.1 x.1.2) _ W.heap.size rfl rfl rfl (it_infoC x.2 _) (by rw [it_len x.2]; rfl) (it_one _ _)) ?_; refine Hid.out ?_)
    refine Lib.hid ?_
    gi_wp2
    exact hK _ _ ((KeepsOthers.alloc _ _).from _) (KpO.below hbb) (hi.up hbb) ⟨W.heap.size, hi.r7.lt, Bx.new W _ _, rfl⟩
  case body =>
    rintro l pre x a' W hl _ hi ⟨B8, hB8, hx8, rfl⟩ hlt
    have RX := Lib.hid (rangeAll hx8)
    have HI := Lib.hid hi
    have hlast : (lastI (itemsT pre)).1.addr.length = 16 := by
      unfold lastI
      cases hg : (itemsT pre).getLast? with
      | none => rfl
      | some y =>
        have := List.mem_of_getLast? hg
        obtain ⟨z, _, rfl⟩ := List.mem_map.1 this
        exact z.2
    have HLA := Lib.hid hlast
    have hW2 := HI.out.r6.row (itR x.1.1 x.1.2)
    have c7 : (W.setRow (w.heap.size + 1 + 1) (itR x.1.1 x.1.2).toArray).cell? ⟨w.heap.size + 1 + 1 + 1, 0, none⟩ = some (.bool (!(itemsT pre).isEmpty)) := by rw [(hi.r7.rowOther (by omega) _).cell]; rfl
    have y7 : (W.setRow (w.heap.size + 1 + 1) (itR x.1.1 x.1.2).toArray).frozen? ⟨w.heap.size + 1 + 1 + 1, 0, none⟩ = false := (hi.r7.rowOther (by omega) _).frozen 0
    have HK1 := Lib.hid (keeps_setRow (show W.heap[w.heap.size + 1 + 1]? = _ from hi.r6) (itR x.1.1 x.1.2).toArray)
    clear hi hx8 hlast
    gi_wp2_with (first
      | (refine inV rfl (by intro c h; cases h) rfl (itV x.1.1 x.1.2) (exec_load_any _ (.tmp 8) rfl B8 0 (itR x.1.1 x.1.2) _ rfl RX.out Try.underlying44 rfl (it_infoC x.2 _)) ?_)
      | (refine inS rfl (by intro c h; cases h) rfl (exec_store_bx _ (.tmp 6) (.tmp 21) rfl (w.heap.size + 1 + 1) (itR x.1.1 x.1.2) _ rfl rfl HI.out.r6 (it_infoC x.2 _) (by rw [it_len x.2, it_len HLA.out]) (it_one _ _)) ?_; refine Hid.out ?_))
    refine Lib.hid ?_
    gi_wp2
    have hn : lastI (itemsT (pre ++ [x])) = x.1 := by unfold lastI itemsT; simp
    have he : (!(itemsT (pre ++ [x])).isEmpty) = true := by unfold itemsT; simp
    refine ⟨(HK1.out.trans (KeepsOthers.setCell _ _ _)).from _, (kp_setRow W _ _ (.inl rfl)).trans (KpO.set _ _ _ _ (.inr rfl)), ?_⟩
    show LookI w a (lastI (itemsT (pre ++ [x]))) (!(itemsT (pre ++ [x])).isEmpty) _
    rw [hn, he]
    exact ⟨(HI.out.r3.rowOther (by omega) _).setOther (by omega) _ _, (HI.out.r4.rowOther (by omega) _).setOther (by omega) _ _, hW2.setOther (by omega) _ _, (HI.out.r7.rowOther (by omega) _).set 0 _, (below_row HI.out.below (by omega) _).setCell (p := ⟨w.heap.size + 1 + 1 + 1, 0, none⟩) (by simp; omega) _⟩
  case done =>
    rintro D xs W hD hS hi hK
    subst hS
    have hlast : (lastI (itemsT xs)).1.addr.length = 16 := by
      unfold lastI
      cases hg : (itemsT xs).getLast? with
      | none => rfl
      | some y =>
        have := List.mem_of_getLast? hg
        obtain ⟨z, _, rfl⟩ := List.mem_map.1 this
        exact z.2
    have HLA := Lib.hid hlast
    clear hlast z3 tg3 hab
    generalize hlx : lastI (itemsT xs) = x at *
    generalize hle : (!(itemsT xs).isEmpty) = be at *
    gi_wp2
    refine wpIn_wide.2 ?_
    refine wp_region_noPanic ?_
    refine wp_region_held_drew (S := HeldQ9 (w.heap.size + 1 + 1) (itR x.1 x.2) be) (by kernel_rfl) ⟨hi.r6, (hi.r7.cell 0).trans rfl⟩ (fun hHeld => ?_)
    have hi2 : LookI w a x be W.drew := ⟨hi.r3, hi.r4, hi.r6, hi.r7, hi.below.drew⟩
    have hK2 : W.drew.heap[D]? = some (.deferred (some [])) := hK
    clear hi hK
    generalize W.drew = W2 at *
    refine held_take (v := itV x.1 x.2) 0 rfl (by kernel_rfl) (by kernel_rfl) (by kernel_rfl) (fun _ _ _ h => h) (by rfl) (fun W hSw => exec_load_any _ (.tmp 6) rfl (w.heap.size + 1 + 1) 0 (itR x.1 x.2) _ rfl (rangeAll hSw.1) Try.underlying44 rfl (it_infoC HLA.out x.2)) (by assumption) ?_
    simp only [List.setIfInBounds_toArray, List.set_cons_zero, List.set_cons_succ]
    refine held_take (v := .bool be) 1 rfl (by kernel_rfl) (by kernel_rfl) (by kernel_rfl) (fun _ _ _ h => h) (by rfl) (fun W hSw => (by have h1 := hSw.2; go_simp)) (by assumption) ?_
    simp only [List.setIfInBounds_toArray, List.set_cons_zero, List.set_cons_succ]
    refine held_none 2 rfl (by kernel_rfl) (by rfl) (fun K hK => ?_)
    refine wp_store_row 44 (.tmp 4) (.tmp 22) rfl (w.heap.size + 1) (itR x.1 x.2).toArray rfl rfl _ _ hi2.r4 (by simpa using it_infoC HLA.out x.2) (by simp [it_len HLA.out]; rfl) (all_oneCell_toArray (it_one _ _)) ?_
    refine hK.out _ _ ⟨hi2.r6.rowOther (by omega) _, by rw [(hi2.r7.rowOther (by omega) _).cell]; rfl⟩ (fun hH3 => ?_)
    clear hK K
    refine held_take (v := ?v257) 3 rfl (by kernel_rfl) (by kernel_rfl) (by kernel_rfl) (fun _ _ _ h => h) (by rfl) ?y257 (by assumption) ?_
    case y257 => (intro w hSw; unfold HeldQ9 at hSw; go_simp; (try with_reducible rfl); (try omega))
    simp only [List.setIfInBounds_toArray, List.set_cons_zero, List.set_cons_succ]
    refine wpAnyH_done (by kernel_rfl) ?_ _
    refine NoPanic.normal ?_
    gi_wp2
    have hKD := (keeps_setRow (show W2.heap[w.heap.size + 1]? = _ from hi2.r4) (itR x.1 x.2).toArray).same D _ hK2 rfl
    refine ⟨by simp, .inl ⟨_, _, rfl, run_takeDeferred hKD, ?_⟩⟩
    have hr4 := hi2.r4.row (itR x.1 x.2)
    have hne : w.heap.size + 1 ≠ D := fun e => by rw [← e, show (W2.setRow (w.heap.size + 1) (itR x.1 x.2).toArray).heap[w.heap.size + 1]? = _ from hr4] at hKD; cases hKD
    have hr5 : Bx ((W2.setRow (w.heap.size + 1) (itR x.1 x.2).toArray).putObj D (.deferred none)) (w.heap.size + 1) 44 (itR x.1 x.2) := (World.putObj_heap_other hne).trans hr4
    exact ⟨_, results_it2 Try.results36 _ _ (w.heap.size + 1) x.1 x.2 HLA.out rfl hr5, by rw [hlx, hle]; rfl, (below_row hi2.below (by omega) _).trans (belowK_b (w := w) (Nat.le_refl _) _ D _ _ (by omega) hKD rfl rfl)⟩
  case stop =>
    rintro D c pre W _ _ h _
    exact h.elim
set_option maxRecDepth 100000 in
set_option maxHeartbeats 4000000 in
theorem look_nil (a : List UInt8) (w : World) :
    Calls Try.prog 36 #[.pointer none, arrV a] w fun e w' => e = .returned (.tuple #[itV zeroP 0, .bool false]) ∧ Below w.heap.size w w' := by
  rw [show arrV a = .agg (byteVals a).toArray from rfl]
  have ez : (#[.bool false, .int .u8 0, .int .u8 0, .int .u8 0, .int .u8 0, .int .u8 0, .int .u8 0, .int .u8 0, .int .u8 0, .int .u8 0, .int .u8 0, .int .u8 0, .int .u8 0, .int .u8 0, .int .u8 0, .int .u8 0, .int .u8 0, .int .i64 0, .int .i64 0] : Array Value) = (itR zeroP 0).toArray := rfl
  have hbb : Below w.heap.size w ((w.alloc (.cells (byteVals a).toArray 23)).alloc (.cells (itR zeroP 0).toArray 44)) := ((Below.refl _ _).alloc (Nat.le_refl _) _).alloc (by simp) _
  have hbx : Bx ((w.alloc (.cells (byteVals a).toArray 23)).alloc (.cells (itR zeroP 0).toArray 44)) (w.heap.size + 1) 44 (itR zeroP 0) := by
    have := Bx.new (w.alloc (.cells (byteVals a).toArray 23)) 44 (itR zeroP 0)
    rwa [World.size_alloc] at this
  have HB := Lib.hid hbb
  have HX := Lib.hid hbx
  have HF : Hid (zeroP.addr.length = 16) := rfl
  clear hbb hbx
  go_enter Try.func36, Try.ntmps36
  go_wp2_with (first
    | (refine wpList_build0 rfl 44 rfl (itR zeroP 0) built_it0 ?_)
    | (refine wpList_store_bx rfl 44 (.tmp 4) (.tmp 11) rfl (w.heap.size + 1) (itR zeroP 0) (itR zeroP 0) rfl rfl HX.out (it_infoC HF.out 0) rfl (it_one _ _) ?_; refine Hid.out ?_))
  refine Lib.hid ?_
  go_wp2
  exact bodyPost_ret (results_it2 Try.results36 _ _ (w.heap.size + 1) zeroP 0 HF.out rfl (HX.out.row _)) rfl ⟨rfl, below_row HB.out (by omega) _⟩
theorem all_nil (w : World) : Calls Try.prog 44 #[.pointer none] w fun e w' => e = .returned (.slice none 0 0) ∧ w' = w := by
  go_enter Try.func44, Try.ntmps44
  go_wp2
  go_ret
  exact ⟨rfl, rfl⟩
end Go.Proofs.Ytgimcapcnidjjaa

/- Package pool: Hop. -/
import Derived.Test.YtoliijajhikhgaaDoorPo8
import Derived.Laws.ResultCell
namespace Go.Proofs.YtoliijajhikhgaaDoor
open Go Go.RowKit Go.Shelf
attribute [local go_sem] Oper.semAt_some

theorem results_cell_tmp2 {fn : Func} {p u v : Tmp} {ty : TypeId} (h : fn.results = #[.cell p ty, .tmp u, .tmp v]) (tmps : Array Value) (P : Program) (w : World) :
    (results fn tmps).run P w =
      ((asAddr (tmps.getD p undef)).run P w).andThen fun a w₁ => ((loadVar ty a).run P w₁).andThen fun x w₂ => .ok (.tuple #[x, tmps.getD u undef, tmps.getD v undef]) w₂ := by
  simp only [results, h]
  simp [Sem.run_bind, Result.andThen]
/-- an answer of a struct in a box and a value -/
theorem results_row2 {P : Program} {fn : Func} {u v : Tmp} {ty : TypeId} (h : fn.results = #[.cell u ty, .tmp v]) (tmps : Array Value) (w : World) (g : Nat) (l : List Value) (hp : tmps.getD u undef = .pointer (some ⟨g, 0, none⟩))
    (hg : Bx w g ty l) {d : TypeDesc} (hu : P.underlying ty = some d) (hd : (match d with | .struct _ | .array _ _ => true | _ => false) = true) (hi : (P.info? ty).map (·.size) = some l.length) : (results fn tmps).run P w = .ok (.tuple #[.agg l.toArray, tmps.getD v undef]) w := by
  rw [results_cell_tmp h, hp]
  have := run_loadVar_row (P := P) w g _ _ l.toArray (0, 0) _ hg hu hd (by rw [hi]; simp)
  simp only [asAddr, Sem.run_pure, Result.andThen_ok, this]
theorem results_row3 {P : Program} {fn : Func} {u v v2 : Tmp} {ty : TypeId} (h : fn.results = #[.cell u ty, .tmp v, .tmp v2]) (tmps : Array Value) (w : World) (g : Nat) (l : List Value) (hp : tmps.getD u undef = .pointer (some ⟨g, 0, none⟩))
    (hg : Bx w g ty l) {d : TypeDesc} (hu : P.underlying ty = some d) (hd : (match d with | .struct _ | .array _ _ => true | _ => false) = true) (hi : (P.info? ty).map (·.size) = some l.length) : (results fn tmps).run P w = .ok (.tuple #[.agg l.toArray, tmps.getD v undef, tmps.getD v2 undef]) w := by
  rw [results_cell_tmp2 h, hp]
  have := run_loadVar_row (P := P) w g _ _ l.toArray (0, 0) _ hg hu hd (by rw [hi]; simp)
  simp only [asAddr, Sem.run_pure, Result.andThen_ok, this]
/-- Hop's two boxes: the answer, what was found. -/
structure HopB (w : World) (W : World) (g : Nat) (l m : List Value) : Prop where
  r : Bx W w.heap.size 25 l
  h : Bx W g 25 m
  b : Below w.heap.size w W
  n : w.heap.size < g
section
variable {w W W' : World} {g : Nat} {l m : List Value}
theorem HopB.up (h : HopB w W g l m) (hb : Below W.heap.size W W') : HopB w W' g l m := ⟨h.r.up hb, h.h.up hb, below_up h.b hb h.b.size, h.n⟩
theorem HopB.row (h : HopB w W g l m) (m' : List Value) : HopB w (W.setRow g m'.toArray) g l m' := ⟨h.r.rowOther (Nat.ne_of_lt h.n) _, h.h.row _, below_row h.b (Nat.le_of_lt h.n) _, h.n⟩
theorem HopB.ans (h : HopB w W g l m) (l' : List Value) : HopB w (W.setRow w.heap.size l'.toArray) g l' m := ⟨h.r.row _, h.h.rowOther (Nat.ne_of_gt h.n) _, below_row h.b (Nat.le_refl _) _, h.n⟩
end
def hop0 : List Value := hopR 0 (.slice none 0 0) 0 0 (.slice none 0 0) false
section
variable {base pt : Nat} {room : Int} {T : List (Value × Int)} {vt vk : Value} {ks : List Nat}
set_option maxRecDepth 100000 in
set_option maxHeartbeats 8000000 in
theorem phop_yes (o : Int) (L : Value) (p b : Int) (R : Value) (pp : Bool) (l r : List Int) (id n : Int) (w : World) (h : PoolM w base pt room T vt vk ks) (hL : IsC intR 1 w L l) (hR : IsC intR 1 w R r) (h1 : l.length ≤ 1000) (h2 : r.length ≤ 1000) (hx : atT T id = (.iface 25 (.agg (hopR o L p b R pp).toArray), n)) :
    Calls Tryd.prog 12 #[.pointer (some ⟨pt, 0, none⟩), .int .i64 id] w fun e w' => ∃ L' R', e = .returned (.tuple #[.agg (hopR o L' p b R' pp).toArray, .bool true]) ∧ w'.ownsRow w.heap.size 3 1 L' l.length (l.flatMap intR) ∧ w'.ownsRow w.heap.size 3 1 R' r.length (r.flatMap intR) ∧ L'.oneCell' = true ∧ R'.oneCell' = true ∧ Below w.heap.size w w' := by
  obtain ⟨a1, k1, rfl⟩ := isc_slice hL
  obtain ⟨a2, k2, rfl⟩ := isc_slice hR
  have hb0 : Below w.heap.size w (w.alloc (.cells hop0.toArray 25)) := (Below.refl _ _).alloc (Nat.le_refl _) _
  have HX := Lib.hid (Bx.new w 25 hop0)
  have HB0 := Lib.hid hb0
  have HA := Lib.hid (pat_any id _ (h.up hb0))
  rw [hx, show (thR (.iface 25 (.agg (hopR o (.slice a1 l.length k1) p b (.slice a2 r.length k2) pp).toArray), n)).toArray = #[.iface 25 (.agg (hopR o (.slice a1 l.length k1) p b (.slice a2 r.length k2) pp).toArray), .int .i64 n] from rfl] at HA
  have HW := Lib.hid (fun W (hb : Below w.heap.size w W) => pown_any o _ p b _ pp l r W (hL.below hb) (hR.below hb) h1 h2)
  clear h hx hb0 hL hR
  have hf0 := field14_0 (.iface 25 (.agg (hopR o (.slice a1 l.length k1) p b (.slice a2 r.length k2) pp).toArray)) n
  have ha := fun W => as_hop W (.agg (hopR o (.slice a1 l.length k1) p b (.slice a2 r.length k2) pp).toArray)
  have ez : (#[.int .i64 0, .slice none 0 0, .int .i64 0, .int .i64 0, .slice none 0 0, .bool false] : Array Value) = hop0.toArray := rfl
  go_enter Tryd.func12, Tryd.ntmps12
  go_wp2_with (go_at_call 29; refine HA.out.mono ?_; rintro e w1 ⟨rfl, b1⟩; refine Hid.out ?_)
  refine Lib.hid ?_
  have hB1 := below_up HB0.out b1 HB0.out.size
  have hH := (HopB.mk ((HX.out.up b1).al (.cells hop0.toArray 25)) (Bx.new w1 25 hop0) (hB1.alloc hB1.size _) (by have := HB0.out.size; have := b1.size; simp at this; omega))
  have HH := Lib.hid hH
  have HH2 := Lib.hid (hH.row (hopR o (.slice a1 l.length k1) p b (.slice a2 r.length k2) pp))
  have HW2 := Lib.hid (HW.out _ HH2.out.b)
  clear b1 hB1 hH HX
  go_wp2_with (first
    | (refine wpList_store_bx rfl 25 (.tmp 6) (.tmp 14) rfl w1.heap.size (hopR o (.slice a1 l.length k1) p b (.slice a2 r.length k2) pp) _ rfl rfl HH.out.h hop_info rfl (hopR_one o p b pp rfl rfl) ?_)
    | (refine plV rfl (.agg (hopR o (.slice a1 l.length k1) p b (.slice a2 r.length k2) pp).toArray) (exec_load_any _ (.tmp 6) rfl w1.heap.size 0 _ _ rfl (rangeAll HH2.out.h) Tryd.underlying25 rfl hop_info) ?_)
    | (go_at_call 27; refine HW2.out.mono ?_; rintro e w2 ⟨L', R', rfl, hl, hr, ol, or, b2⟩; refine Hid.out ?_))
  refine Lib.hid ?_
  obtain ⟨x1, n1, d1, rfl⟩ := slice_ex hl
  obtain ⟨x2, n2, d2, rfl⟩ := slice_ex hr
  have HH3 := Lib.hid (HH2.out.up b2)
  have HL := Lib.hid (own_mono hl HH2.out.b.size)
  have HR := Lib.hid (own_mono hr HH2.out.b.size)
  clear hl hr ol or b2
  go_wp2_with (refine wpList_store_bx rfl 25 (.tmp 4) (.tmp 17) rfl w.heap.size (hopR o (.slice x1 n1 d1) p b (.slice x2 n2 d2) pp) _ rfl rfl HH3.out.r hop_info rfl (hopR_one o p b pp rfl rfl) ?_; refine Hid.out ?_)
  refine Lib.hid ?_
  have HH4 := Lib.hid (HH3.out.ans (hopR o (.slice x1 n1 d1) p b (.slice x2 n2 d2) pp))
  have HL4 := Lib.hid (own_kp HL.out (kp_row (O := fun k => k = w.heap.size) w2 w.heap.size (hopR o (.slice x1 n1 d1) p b (.slice x2 n2 d2) pp).toArray rfl) (fun k e q => own_ne_bx HL.out HH3.out.r (by decide) (by rw [e, q])))
  have HR4 := Lib.hid (own_kp HR.out (kp_row (O := fun k => k = w.heap.size) w2 w.heap.size (hopR o (.slice x1 n1 d1) p b (.slice x2 n2 d2) pp).toArray rfl) (fun k e q => own_ne_bx HR.out HH3.out.r (by decide) (by rw [e, q])))
  go_wp2
  exact bodyPost_ret (results_row2 Tryd.results12 _ _ w.heap.size _ rfl HH4.out.r Tryd.underlying25 rfl hop_info) rfl ⟨_, _, rfl, HL4.out, HR4.out, rfl, rfl, HH4.out.b⟩
set_option maxRecDepth 100000 in
set_option maxHeartbeats 8000000 in
theorem phop_nil (id n : Int) (w : World) (h : PoolM w base pt room T vt vk ks) (hx : atT T id = (.nilIface, n)) :
    Calls Tryd.prog 12 #[.pointer (some ⟨pt, 0, none⟩), .int .i64 id] w fun e w' => ∃ L' R', e = .returned (.tuple #[.agg (hopR 0 L' 0 0 R' false).toArray, .bool false]) ∧ L'.oneCell' = true ∧ R'.oneCell' = true ∧ Below w.heap.size w w' := by
  have hb0 : Below w.heap.size w (w.alloc (.cells hop0.toArray 25)) := (Below.refl _ _).alloc (Nat.le_refl _) _
  have HX := Lib.hid (Bx.new w 25 hop0)
  have HB0 := Lib.hid hb0
  have HA := Lib.hid (pat_any id _ (h.up hb0))
  rw [hx, show (thR (.nilIface, n)).toArray = #[.nilIface, .int .i64 n] from rfl] at HA
  have HW := Lib.hid (fun W => pown_any 0 (.slice none 0 0) 0 0 (.slice none 0 0) false [] [] W (IsC.nil _) (IsC.nil _) (Nat.zero_le _) (Nat.zero_le _))
  clear h hx hb0
  have hf0 := field14_0 .nilIface n
  have ha := fun W => as_hop_nil W
  have ez : (#[.int .i64 0, .slice none 0 0, .int .i64 0, .int .i64 0, .slice none 0 0, .bool false] : Array Value) = hop0.toArray := rfl
  go_enter Tryd.func12, Tryd.ntmps12
  go_wp2_with (go_at_call 29; refine HA.out.mono ?_; rintro e w1 ⟨rfl, b1⟩; refine Hid.out ?_)
  refine Lib.hid ?_
  have hB1 := below_up HB0.out b1 HB0.out.size
  have hH := (HopB.mk ((HX.out.up b1).al (.cells hop0.toArray 25)) (Bx.new w1 25 hop0) (hB1.alloc hB1.size _) (by have := HB0.out.size; have := b1.size; simp at this; omega))
  have HH := Lib.hid hH
  have HH2 := Lib.hid (hH.row (hopR 0 (.slice none 0 0) 0 0 (.slice none 0 0) false))
  have HW2 := Lib.hid (HW.out ((w1.alloc (.cells hop0.toArray 25)).setRow w1.heap.size (hopR 0 (.slice none 0 0) 0 0 (.slice none 0 0) false).toArray))
  clear b1 hB1 hH HX
  go_wp2_with (first
    | (refine wpList_store_bx rfl 25 (.tmp 6) (.tmp 14) rfl w1.heap.size (hopR 0 (.slice none 0 0) 0 0 (.slice none 0 0) false) _ rfl rfl HH.out.h hop_info rfl (hopR_one 0 0 0 false rfl rfl) ?_)
    | (refine plV rfl (.agg (hopR 0 (.slice none 0 0) 0 0 (.slice none 0 0) false).toArray) (exec_load_any _ (.tmp 6) rfl w1.heap.size 0 _ _ rfl (rangeAll HH2.out.h) Tryd.underlying25 rfl hop_info) ?_)
    | (go_at_call 27; refine HW2.out.mono ?_; rintro e w2 ⟨L', R', rfl, hl, hr, ol, or, b2⟩; refine Hid.out ?_))
  refine Lib.hid ?_
  obtain ⟨x1, n1, d1, rfl⟩ := slice_ex hl
  obtain ⟨x2, n2, d2, rfl⟩ := slice_ex hr
  have HH3 := Lib.hid (HH2.out.up b2)
  clear hl hr ol or b2
  go_wp2_with (refine wpList_store_bx rfl 25 (.tmp 4) (.tmp 17) rfl w.heap.size (hopR 0 (.slice x1 n1 d1) 0 0 (.slice x2 n2 d2) false) _ rfl rfl HH3.out.r hop_info rfl (hopR_one 0 0 0 false rfl rfl) ?_; refine Hid.out ?_)
  refine Lib.hid ?_
  have HH4 := Lib.hid (HH3.out.ans (hopR 0 (.slice x1 n1 d1) 0 0 (.slice x2 n2 d2) false))
  go_wp2
  exact bodyPost_ret (results_row2 Tryd.results12 _ _ w.heap.size _ rfl HH4.out.r Tryd.underlying25 rfl hop_info) rfl ⟨_, _, rfl, rfl, rfl, HH4.out.b⟩
end
end Go.Proofs.YtoliijajhikhgaaDoor

/- The document's tables of both kinds (footplateref10): Get, Look, New. -/
import Derived.Test.YtgimcapcnidjjaaG10a
namespace Go.Proofs.Ytgimcapcnidjjaa
open Go Go.RowKit

set_option maxRecDepth 100000 in
set_option maxHeartbeats 4000000 in
theorem gget_six (is : Bool) (room : Int) (D : Bool → Sl) (L : Bool → List (Pfx × Int)) (p : Pfx) (w : World) (hC : IsC itF 19 w (D true).v (L true)) (hp : p.addr.length = 16) (hl : (L true).length ≤ 900000) (hs : p.six = true) :
    Calls Try.prog 16 #[fV is room D, p.val] w fun e w' => e = .returned (.tuple #[.int .i64 ((getT cmpP p (L true)).getD 0), .bool (getT cmpP p (L true)).isSome]) ∧ Below w.heap.size w w' := by
  have HT := Lib.hid (twoB_new w 33 25 (fR is room D) p.row)
  have HP := Lib.hid hp
  have HQ := Lib.hid (fun W (hW : Below w.heap.size w W) => qget is is room (D true).a (D true).n (D true).c (L true) p W (hC.below hW) hp (by omega))
  have c0 := HT.out.2.1.cell 0
  rw [show p.row[0]? = some (.bool p.six) from rfl, hs] at c0
  have R1 := Lib.hid (HT.out.1.range 4 (tR is is room (D true).v) rfl)
  have R2 := Lib.hid (rangeAll HT.out.2.1)
  rw [show fV is room D = .agg (fR is room D).toArray from rfl, show p.val = .agg p.row.toArray from rfl]
  clear hp hC hl hs
  generalize (getT cmpP p (L true)).getD 0 = v at *
  generalize (getT cmpP p (L true)).isSome = u at *
  go_enter Try.func16, Try.ntmps16
  go_wp2_with (first
    | (refine plV rfl (tV is is room (D true).v) (exec_load_any _ (.tmp 8) rfl w.heap.size 4 (tR is is room (D true).v) _ rfl R1.out Try.underlying31 rfl t_info) ?_)
    | (refine plV rfl p.val (exec_load_any _ (.tmp 3) rfl (w.heap.size + 1) 0 p.row _ rfl R2.out Try.underlying25 rfl (pf_infoC HP.out)) ?_)
    | (go_at_call 39; refine (HQ.out _ HT.out.2.2).mono ?_; rintro e w3 ⟨rfl, b3⟩; refine Hid.out ?_))
  refine Lib.hid ?_
  go_wp2
  exact bodyPost_ret (v := .tuple #[.int .i64 v, .bool u]) (by simp [results, Try.results16, go_sem]) rfl ⟨rfl, below_up HT.out.2.2 b3 HT.out.2.2.size⟩
set_option maxRecDepth 100000 in
set_option maxHeartbeats 4000000 in
theorem gget_four (is : Bool) (room : Int) (D : Bool → Sl) (L : Bool → List (Pfx × Int)) (p : Pfx) (w : World) (hC : IsC itF 19 w (D false).v (L false)) (hp : p.addr.length = 16) (hl : (L false).length ≤ 900000) (hs : p.six = false) :
    Calls Try.prog 16 #[fV is room D, p.val] w fun e w' => e = .returned (.tuple #[.int .i64 ((getT cmpP p (L false)).getD 0), .bool (getT cmpP p (L false)).isSome]) ∧ Below w.heap.size w w' := by
  have HT := Lib.hid (twoB_new w 33 25 (fR is room D) p.row)
  have HP := Lib.hid hp
  have HQ := Lib.hid (fun W (hW : Below w.heap.size w W) => qget is false room (D false).a (D false).n (D false).c (L false) p W (hC.below hW) hp (by omega))
  have c0 := HT.out.2.1.cell 0
  rw [show p.row[0]? = some (.bool p.six) from rfl, hs] at c0
  have R1 := Lib.hid (HT.out.1.range 0 (tR is false room (D false).v) rfl)
  have R2 := Lib.hid (rangeAll HT.out.2.1)
  rw [show fV is room D = .agg (fR is room D).toArray from rfl, show p.val = .agg p.row.toArray from rfl]
  clear hp hC hl hs
  generalize (getT cmpP p (L false)).getD 0 = v at *
  generalize (getT cmpP p (L false)).isSome = u at *
  go_enter Try.func16, Try.ntmps16
  go_wp2_with (first
    | (refine plV rfl (tV is false room (D false).v) (exec_load_any _ (.tmp 14) rfl w.heap.size 0 (tR is false room (D false).v) _ rfl R1.out Try.underlying31 rfl t_info) ?_)
    | (refine plV rfl p.val (exec_load_any _ (.tmp 3) rfl (w.heap.size + 1) 0 p.row _ rfl R2.out Try.underlying25 rfl (pf_infoC HP.out)) ?_)
    | (go_at_call 39; refine (HQ.out _ HT.out.2.2).mono ?_; rintro e w3 ⟨rfl, b3⟩; refine Hid.out ?_))
  refine Lib.hid ?_
  go_wp2
  exact bodyPost_ret (v := .tuple #[.int .i64 v, .bool u]) (by simp [results, Try.results16, go_sem]) rfl ⟨rfl, below_up HT.out.2.2 b3 HT.out.2.2.size⟩
/-- The boxes of Look. -/
structure GlZ (w : World) (l : List Value) (a : List UInt8) (W : World) : Prop where
  f : Bx W w.heap.size 33 l
  a : Bx W (w.heap.size + 1) 23 (byteVals a)
  r : Bx W (w.heap.size + 1 + 1) 47 (itR zeroP 0)
  below : Below w.heap.size w W
theorem GlZ.up {w : World} {l : List Value} {a : List UInt8} {W W' : World} (h : GlZ w l a W) (hb : Below W.heap.size W W') : GlZ w l a W' := ⟨h.f.up hb, h.a.up hb, h.r.up hb, below_up h.below hb h.below.size⟩
theorem glZ_new (w : World) (l : List Value) (a : List UInt8) : GlZ w l a (((w.alloc (.cells l.toArray 33)).alloc (.cells (byteVals a).toArray 23)).alloc (.cells (itR zeroP 0).toArray 47)) := by
  have h := twoB_new w 33 23 l (byteVals a)
  refine ⟨h.1.al _, h.2.1.al _, ?_, h.2.2.alloc (by simp; omega) _⟩
  have := Bx.new ((w.alloc (.cells l.toArray 33)).alloc (.cells (byteVals a).toArray 23)) 47 (itR zeroP 0)
  rwa [World.size_alloc, World.size_alloc] at this
set_option maxRecDepth 100000 in
set_option maxHeartbeats 4000000 in
theorem glook_six (is : Bool) (room : Int) (D : Bool → Sl) (L : Bool → List (Pfx × Int)) (a : List UInt8) (w : World) (s6 : Bool) (hO : InOrder cmpP (okP s6) (L true)) (hC : IsC itF 19 w (D true).v (L true)) (ha : a.length = 16) (hl : (L true).length ≤ 900000) :
    Calls Try.prog 14 #[fV is room D, .bool true, arrV a] w fun e w' => e = .returned (.tuple #[itV ((lookT a (L true)).getD it0).1 ((lookT a (L true)).getD it0).2, .bool (lookT a (L true)).isSome]) ∧ Below w.heap.size w w' := by
  have HZ := Lib.hid (glZ_new w (fR is room D) a)
  have ez : (#[.bool false, .int .u8 0, .int .u8 0, .int .u8 0, .int .u8 0, .int .u8 0, .int .u8 0, .int .u8 0, .int .u8 0, .int .u8 0, .int .u8 0, .int .u8 0, .int .u8 0, .int .u8 0, .int .u8 0, .int .u8 0, .int .u8 0, .int .i64 0, .int .i64 0] : Array Value) = (itR zeroP 0).toArray := rfl
  have HA := Lib.hid ha
  have h16 : ((lookT a (L true)).getD it0).1.addr.length = 16 := by
    cases hl : lookT a (L true) with
    | none => rfl
    | some z => exact (hO.2 z (look_mem a _ z hl).1).2.1
  have HI := Lib.hid h16
  have HQ := Lib.hid (fun W (hW : Below w.heap.size w W) => qlook is is room (D true).a (D true).n (D true).c (L true) a W s6 hO (hC.below hW) ha (by omega))
  have R1 := Lib.hid (HZ.out.f.range 4 (tR is is room (D true).v) rfl)
  have R2 := Lib.hid (rangeAll HZ.out.a)
  rw [show fV is room D = .agg (fR is room D).toArray from rfl, show arrV a = .agg (byteVals a).toArray from rfl]
  clear ha hC hl hO h16
  generalize (lookT a (L true)).getD it0 = x at *
  generalize (lookT a (L true)).isSome = u at *
  go_enter Try.func14, Try.ntmps14
  go_wp2_with (first
    | (refine plV rfl (tV is is room (D true).v) (exec_load_any _ (.tmp 9) rfl w.heap.size 4 (tR is is room (D true).v) _ rfl R1.out Try.underlying31 rfl t_info) ?_)
    | (refine plV rfl (arrV a) (exec_load_any _ (.tmp 5) rfl (w.heap.size + 1) 0 (byteVals a) _ rfl R2.out Try.underlying23 rfl (by rw [byteVals_length, HA.out]; exact arr16P.info)) ?_)
    | (go_at_call 37; refine (HQ.out _ HZ.out.below).mono ?_; rintro e w3 ⟨rfl, b3⟩; refine Hid.out ?_))
  refine Lib.hid ?_
  have HZ3 := Lib.hid (HZ.out.up b3)
  clear b3 HZ HQ R1 R2
  rw [show itV x.1 x.2 = .agg (itR x.1 x.2).toArray from rfl]
  go_wp2_with (first
    | (refine wpList_store_bx rfl 47 (.tmp 6) (.tmp 13) rfl (w.heap.size + 1 + 1) (itR x.1 x.2) (itR zeroP 0) rfl rfl HZ3.out.r (i_infoC HI.out x.2) (by rw [it_len HI.out]; rfl) (it_one _ _) ?_; refine Hid.out ?_))
  refine Lib.hid ?_
  go_wp2
  exact bodyPost_ret (results_i2 Try.results14 _ _ (w.heap.size + 1 + 1) x.1 x.2 HI.out rfl (HZ3.out.r.row _)) rfl ⟨rfl, below_row HZ3.out.below (by omega) _⟩
set_option maxRecDepth 100000 in
set_option maxHeartbeats 4000000 in
theorem glook_four (is : Bool) (room : Int) (D : Bool → Sl) (L : Bool → List (Pfx × Int)) (a : List UInt8) (w : World) (s6 : Bool) (hO : InOrder cmpP (okP s6) (L false)) (hC : IsC itF 19 w (D false).v (L false)) (ha : a.length = 16) (hl : (L false).length ≤ 900000) :
    Calls Try.prog 14 #[fV is room D, .bool false, arrV a] w fun e w' => e = .returned (.tuple #[itV ((lookT a (L false)).getD it0).1 ((lookT a (L false)).getD it0).2, .bool (lookT a (L false)).isSome]) ∧ Below w.heap.size w w' := by
  have HZ := Lib.hid (glZ_new w (fR is room D) a)
  have ez : (#[.bool false, .int .u8 0, .int .u8 0, .int .u8 0, .int .u8 0, .int .u8 0, .int .u8 0, .int .u8 0, .int .u8 0, .int .u8 0, .int .u8 0, .int .u8 0, .int .u8 0, .int .u8 0, .int .u8 0, .int .u8 0, .int .u8 0, .int .i64 0, .int .i64 0] : Array Value) = (itR zeroP 0).toArray := rfl
  have HA := Lib.hid ha
  have h16 : ((lookT a (L false)).getD it0).1.addr.length = 16 := by
    cases hl : lookT a (L false) with
    | none => rfl
    | some z => exact (hO.2 z (look_mem a _ z hl).1).2.1
  have HI := Lib.hid h16
  have HQ := Lib.hid (fun W (hW : Below w.heap.size w W) => qlook is false room (D false).a (D false).n (D false).c (L false) a W s6 hO (hC.below hW) ha (by omega))
  have R1 := Lib.hid (HZ.out.f.range 0 (tR is false room (D false).v) rfl)
  have R2 := Lib.hid (rangeAll HZ.out.a)
  rw [show fV is room D = .agg (fR is room D).toArray from rfl, show arrV a = .agg (byteVals a).toArray from rfl]
  clear ha hC hl hO h16
  generalize (lookT a (L false)).getD it0 = x at *
  generalize (lookT a (L false)).isSome = u at *
  go_enter Try.func14, Try.ntmps14
  go_wp2_with (first
    | (refine plV rfl (tV is false room (D false).v) (exec_load_any _ (.tmp 15) rfl w.heap.size 0 (tR is false room (D false).v) _ rfl R1.out Try.underlying31 rfl t_info) ?_)
    | (refine plV rfl (arrV a) (exec_load_any _ (.tmp 5) rfl (w.heap.size + 1) 0 (byteVals a) _ rfl R2.out Try.underlying23 rfl (by rw [byteVals_length, HA.out]; exact arr16P.info)) ?_)
    | (go_at_call 37; refine (HQ.out _ HZ.out.below).mono ?_; rintro e w3 ⟨rfl, b3⟩; refine Hid.out ?_))
  refine Lib.hid ?_
  have HZ3 := Lib.hid (HZ.out.up b3)
  clear b3 HZ HQ R1 R2
  rw [show itV x.1 x.2 = .agg (itR x.1 x.2).toArray from rfl]
  go_wp2_with (first
    | (refine wpList_store_bx rfl 47 (.tmp 6) (.tmp 19) rfl (w.heap.size + 1 + 1) (itR x.1 x.2) (itR zeroP 0) rfl rfl HZ3.out.r (i_infoC HI.out x.2) (by rw [it_len HI.out]; rfl) (it_one _ _) ?_; refine Hid.out ?_))
  refine Lib.hid ?_
  go_wp2
  exact bodyPost_ret (results_i2 Try.results14 _ _ (w.heap.size + 1 + 1) x.1 x.2 HI.out rfl (HZ3.out.r.row _)) rfl ⟨rfl, below_row HZ3.out.below (by omega) _⟩
set_option maxRecDepth 100000 in
set_option maxHeartbeats 4000000 in
theorem gnew_at (is i2 : Bool) (room r0 : Int) (w : World) (h4 : ∀ W, Calls Try.prog 30 #[.bool false, .int .i64 room] W fun e w' => e = .returned (tV is false r0 (.slice none 0 0)) ∧ Below W.heap.size W w')
    (h6 : ∀ W, Calls Try.prog 30 #[.bool true, .int .i64 room] W fun e w' => e = .returned (tV is i2 r0 (.slice none 0 0)) ∧ Below W.heap.size W w') :
    Calls Try.prog 8 #[.int .i64 room] w fun e w' => e = .returned (.agg (tR is false r0 (.slice none 0 0) ++ tR is i2 r0 (.slice none 0 0)).toArray) ∧ Below w.heap.size w w' := by
  have hb : Below w.heap.size w (w.alloc (.cells zF.toArray 33)) := (Below.refl _ _).alloc (Nat.le_refl _) _
  have HX := Lib.hid (Bx.new w 33 zF)
  have HB := Lib.hid hb
  have H4 := Lib.hid h4
  have H6 := Lib.hid h6
  have HO : Hid (∀ v ∈ tR is false r0 (.slice none 0 0) ++ tR is i2 r0 (.slice none 0 0), v.oneCell' = true) := Lib.hid (fun v hv => by
    rcases List.mem_append.1 hv with h | h
    · exact t_one _ _ _ _ rfl v h
    · exact t_one _ _ _ _ rfl v h)
  have ez : (#[.bool false, .bool false, .int .i64 0, .slice none 0 0, .bool false, .bool false, .int .i64 0, .slice none 0 0] : Array Value) = zF.toArray := rfl
  clear h4 h6 hb
  go_enter Try.func8, Try.ntmps8
  go_wp2_with (go_at_call 30; refine (H4.out _).mono ?_; rintro e w1 ⟨rfl, b1⟩; refine Hid.out ?_)
  refine Lib.hid ?_
  have HB1 := Lib.hid (below_up HB.out b1 HB.out.size)
  have HX1 := Lib.hid (HX.out.up b1)
  clear b1 HB HX H4
  go_wp2_with (go_at_call 30; refine (H6.out _).mono ?_; rintro e w2 ⟨rfl, b2⟩; refine Hid.out ?_)
  refine Lib.hid ?_
  have HB2 := Lib.hid (below_up HB1.out b2 HB1.out.size)
  have HX2 := Lib.hid (HX1.out.up b2)
  clear b2 HB1 HX1 H6
  go_wp2_with (first
    | (refine wpList_build2 rfl 33 0 1 (.tmp 4) (.tmp 6) rfl (tV is false r0 (.slice none 0 0)) (tV is i2 r0 (.slice none 0 0)) (tR is false r0 (.slice none 0 0) ++ tR is i2 r0 (.slice none 0 0)) rfl rfl (built_f2 _ _ _ _ _ _ _ _ _) ?_)
    | (refine wpList_store_bx rfl 33 (.tmp 2) (.tmp 7) rfl w.heap.size (tR is false r0 (.slice none 0 0) ++ tR is i2 r0 (.slice none 0 0)) zF rfl rfl HX2.out f_info rfl HO.out ?_; refine Hid.out ?_))
  refine Lib.hid ?_
  go_wp2
  exact bodyPost_ret (results_f Try.results8 _ _ w.heap.size (tR is false r0 (.slice none 0 0) ++ tR is i2 r0 (.slice none 0 0)) rfl rfl (HX2.out.row _)) rfl ⟨rfl, below_row HB2.out (by omega) _⟩
theorem gnew (room : Int) (w : World) (h1 : 1 ≤ room) (h2 : room ≤ 65536) : Calls Try.prog 8 #[.int .i64 room] w fun e w' => e = .returned (fV true room (fun _ => nilS)) ∧ Below w.heap.size w w' :=
  gnew_at true true room room w (fun W => qnew_some false room W h1 h2) (fun W => qnew_some true room W h1 h2)
theorem gnew_none (room : Int) (w : World) (h : room < 1 ∨ 65536 < room) : Calls Try.prog 8 #[.int .i64 room] w fun e w' => e = .returned (fV false 0 (fun _ => nilS)) ∧ Below w.heap.size w w' :=
  gnew_at false false room 0 w (fun W => qnew_none false room W h) (fun W => qnew_none true room W h)
end Go.Proofs.Ytgimcapcnidjjaa

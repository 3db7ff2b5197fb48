/- The document's tables of both kinds (footplateref10): Delete. -/
import Derived.Test.YtgimcapcnidjjaaG10a
namespace Go.Proofs.Ytgimcapcnidjjaa
open Go Go.RowKit

set_option maxRecDepth 100000 in
set_option maxHeartbeats 8000000 in
theorem gdel_six (is : Bool) (room : Int) (D : Bool → Sl) (L : Bool → List (Pfx × Int)) (p : Pfx) (w : World) (hC : IsC itF 19 w (D true).v (L true)) (hp : p.addr.length = 16) (hl : (L true).length ≤ 900000) (hs : p.six = true) :
    Calls Try.prog 12 #[fV is room D, p.val] w (RefF w D L is room true (rdelL is is (L true) p) (rdelE is is (L true) p)) := by
  have HZ := Lib.hid (gpZ_new w (fR is room D) p)
  have ez : (#[.bool false, .bool false, .int .i64 0, .slice none 0 0, .bool false, .bool false, .int .i64 0, .slice none 0 0] : Array Value) = zF.toArray := rfl
  have HP := Lib.hid hp
  have HC := Lib.hid hC
  have HQ := Lib.hid (fun W (hW : Below w.heap.size w W) => qdel_any is is room (D true).a (D true).n (D true).c (L true) p W (hC.below hW) hp hl)
  have c0 := HZ.out.p.cell 0
  rw [show p.row[0]? = some (.bool p.six) from rfl, hs] at c0
  have R1 := Lib.hid (HZ.out.f.range 4 (tR is is room (D true).v) rfl)
  have R2 := Lib.hid (rangeAll HZ.out.p)
  have HS := Lib.hid HZ.out.r.lt
  unfold RefF
  rw [show fV is room D = .agg (fR is room D).toArray from rfl, show p.val = .agg p.row.toArray from rfl]
  clear hp hC hl hs
  generalize rdelL is is (L true) p = L1 at *
  generalize rdelE is is (L true) p = c1 at *
  go_enter Try.func12, Try.ntmps12
  go_wp2_with (first
    | (refine plV rfl (tV is is room (D true).v) (exec_load_any _ (.tmp 13) rfl w.heap.size 4 (tR is is room (D true).v) _ rfl R1.out Try.underlying31 rfl t_info) ?_)
    | (refine plV rfl p.val (exec_load_any _ (.tmp 3) rfl (w.heap.size + 1) 0 p.row _ rfl R2.out Try.underlying25 rfl (pf_infoC HP.out)) ?_)
    | (go_at_call 35; refine (HQ.out _ HZ.out.below).mono ?_; rintro e w3 ⟨⟨a1, n1, k1, rfl, l3, d3⟩, b3⟩; refine Hid.out ?_))
  refine Lib.hid ?_
  have hbA : Below w3.heap.size w3 (w3.alloc (.cells (tR is is room (.slice a1 n1 k1)).toArray 31)) := (Below.refl _ _).alloc (Nat.le_refl _) _
  have HZ4 := Lib.hid ((HZ.out.up b3).up hbA)
  have HG := Lib.hid (gend (w := w) l3 HC.out HS.out d3 (tR is is room (.slice a1 n1 k1)) 4 31 (tR is is room (.slice a1 n1 k1)) (fR is room (upS D true ⟨a1, n1, k1⟩)) (HZ.out.up b3).below)
  have HT := Lib.hid (rangeAll (Bx.new w3 31 (tR is is room (.slice a1 n1 k1))))
  have hmid := bx_mid (l' := fR is room (upS D true ⟨a1, n1, k1⟩)) (N := tR is is room (.slice a1 n1 k1)) (k := 4) HZ4.out.f (Nat.le_of_ble_eq_true rfl) rfl
  have hth := bx_there HZ4.out.f 4 4 (Nat.le_of_ble_eq_true rfl)
  have HM := Lib.hid hmid
  have HTH := Lib.hid hth
  have HR := Lib.hid ((HZ4.out.r.upd (Upd.setCells (X := fun k => k = w.heap.size) w.heap.size rfl (tR is is room (.slice a1 n1 k1)) _ 4) (by omega)))
  clear l3 d3 b3 hbA hmid hth HZ HQ R1 R2 c0 HC HS
  rw [show tV is is room (.slice a1 n1 k1) = .agg (tR is is room (.slice a1 n1 k1)).toArray from rfl]
  go_wp2_with (first
    | (refine wpList_store_fresh rfl 31 (.tmp 6) (.tmp 17) rfl (tR is is room (.slice a1 n1 k1)) _ w3.heap.size rfl rfl rfl t_info rfl (t_one _ _ _ _ rfl) ?_)
    | (refine plV rfl (tV is is room (.slice a1 n1 k1)) (exec_load_any _ (.tmp 6) rfl w3.heap.size 0 (tR is is room (.slice a1 n1 k1)) _ rfl HT.out Try.underlying31 rfl t_info) ?_)
    | (refine plS rfl (exec_store_mid _ (.tmp 20) (.tmp 19) rfl w.heap.size 4 (tR is is room (.slice a1 n1 k1)) rfl rfl HTH.out t_info (t_one _ _ _ _ rfl)) ?_; refine Hid.out ?_))
  refine Lib.hid ?_
  have RF := Lib.hid (rangeAll HM.out)
  clear HTH HT
  generalize (w3.alloc (.cells (tR is is room (.slice a1 n1 k1)).toArray 31)).setCells w.heap.size 4 (tR is is room (.slice a1 n1 k1)) = W6 at *
  go_wp2_with (first
    | (refine plV rfl (fV is room (upS D true ⟨a1, n1, k1⟩)) (exec_load_any _ (.tmp 2) rfl w.heap.size 0 (fR is room (upS D true ⟨a1, n1, k1⟩)) _ rfl RF.out Try.underlying33 rfl f_info) ?_)
    | (refine wpList_store_bx rfl 33 (.tmp 4) (.tmp 21) rfl (w.heap.size + 1 + 1) (fR is room (upS D true ⟨a1, n1, k1⟩)) zF rfl rfl HR.out f_info rfl (f_one _ _ _) ?_; refine Hid.out ?_))
  refine Lib.hid ?_
  go_wp2
  obtain ⟨h1, h2, h3⟩ := HG.out
  exact bodyPost_ret (results_f2 Try.results12 _ _ (w.heap.size + 1 + 1) (fR is room (upS D true ⟨a1, n1, k1⟩)) rfl rfl (HR.out.row _)) rfl ⟨⟨⟨a1, n1, k1⟩, rfl, h1, h2⟩, h3⟩
set_option maxRecDepth 100000 in
set_option maxHeartbeats 8000000 in
theorem gdel_four (is : Bool) (room : Int) (D : Bool → Sl) (L : Bool → List (Pfx × Int)) (p : Pfx) (w : World) (hC : IsC itF 19 w (D false).v (L false)) (hp : p.addr.length = 16) (hl : (L false).length ≤ 900000) (hs : p.six = false) :
    Calls Try.prog 12 #[fV is room D, p.val] w (RefF w D L is room false (rdelL is false (L false) p) (rdelE is false (L false) p)) := by
  have HZ := Lib.hid (gpZ_new w (fR is room D) p)
  have ez : (#[.bool false, .bool false, .int .i64 0, .slice none 0 0, .bool false, .bool false, .int .i64 0, .slice none 0 0] : Array Value) = zF.toArray := rfl
  have HP := Lib.hid hp
  have HC := Lib.hid hC
  have HQ := Lib.hid (fun W (hW : Below w.heap.size w W) => qdel_any is false room (D false).a (D false).n (D false).c (L false) p W (hC.below hW) hp hl)
  have c0 := HZ.out.p.cell 0
  rw [show p.row[0]? = some (.bool p.six) from rfl, hs] at c0
  have R1 := Lib.hid (HZ.out.f.range 0 (tR is false room (D false).v) rfl)
  have R2 := Lib.hid (rangeAll HZ.out.p)
  have HS := Lib.hid HZ.out.r.lt
  unfold RefF
  rw [show fV is room D = .agg (fR is room D).toArray from rfl, show p.val = .agg p.row.toArray from rfl]
  clear hp hC hl hs
  generalize rdelL is false (L false) p = L1 at *
  generalize rdelE is false (L false) p = c1 at *
  go_enter Try.func12, Try.ntmps12
  go_wp2_with (first
    | (refine plV rfl (tV is false room (D false).v) (exec_load_any _ (.tmp 24) rfl w.heap.size 0 (tR is false room (D false).v) _ rfl R1.out Try.underlying31 rfl t_info) ?_)
    | (refine plV rfl p.val (exec_load_any _ (.tmp 3) rfl (w.heap.size + 1) 0 p.row _ rfl R2.out Try.underlying25 rfl (pf_infoC HP.out)) ?_)
    | (go_at_call 35; refine (HQ.out _ HZ.out.below).mono ?_; rintro e w3 ⟨⟨a1, n1, k1, rfl, l3, d3⟩, b3⟩; refine Hid.out ?_))
  refine Lib.hid ?_
  have hbA : Below w3.heap.size w3 (w3.alloc (.cells (tR is false room (.slice a1 n1 k1)).toArray 31)) := (Below.refl _ _).alloc (Nat.le_refl _) _
  have HZ4 := Lib.hid ((HZ.out.up b3).up hbA)
  have HG := Lib.hid (gend (w := w) l3 HC.out HS.out d3 (tR is false room (.slice a1 n1 k1)) 0 31 (tR is false room (.slice a1 n1 k1)) (fR is room (upS D false ⟨a1, n1, k1⟩)) (HZ.out.up b3).below)
  have HT := Lib.hid (rangeAll (Bx.new w3 31 (tR is false room (.slice a1 n1 k1))))
  have hmid := bx_mid (l' := fR is room (upS D false ⟨a1, n1, k1⟩)) (N := tR is false room (.slice a1 n1 k1)) (k := 0) HZ4.out.f (Nat.le_of_ble_eq_true rfl) rfl
  have hth := bx_there HZ4.out.f 0 4 (Nat.le_of_ble_eq_true rfl)
  have HM := Lib.hid hmid
  have HTH := Lib.hid hth
  have HR := Lib.hid ((HZ4.out.r.upd (Upd.setCells (X := fun k => k = w.heap.size) w.heap.size rfl (tR is false room (.slice a1 n1 k1)) _ 0) (by omega)))
  clear l3 d3 b3 hbA hmid hth HZ HQ R1 R2 c0 HC HS
  rw [show tV is false room (.slice a1 n1 k1) = .agg (tR is false room (.slice a1 n1 k1)).toArray from rfl]
  go_wp2_with (first
    | (refine wpList_store_fresh rfl 31 (.tmp 8) (.tmp 28) rfl (tR is false room (.slice a1 n1 k1)) _ w3.heap.size rfl rfl rfl t_info rfl (t_one _ _ _ _ rfl) ?_)
    | (refine plV rfl (tV is false room (.slice a1 n1 k1)) (exec_load_any _ (.tmp 8) rfl w3.heap.size 0 (tR is false room (.slice a1 n1 k1)) _ rfl HT.out Try.underlying31 rfl t_info) ?_)
    | (refine plS rfl (exec_store_mid _ (.tmp 31) (.tmp 30) rfl w.heap.size 0 (tR is false room (.slice a1 n1 k1)) rfl rfl HTH.out t_info (t_one _ _ _ _ rfl)) ?_; refine Hid.out ?_))
  refine Lib.hid ?_
  have RF := Lib.hid (rangeAll HM.out)
  clear HTH HT
  generalize (w3.alloc (.cells (tR is false room (.slice a1 n1 k1)).toArray 31)).setCells w.heap.size 0 (tR is false room (.slice a1 n1 k1)) = W6 at *
  go_wp2_with (first
    | (refine plV rfl (fV is room (upS D false ⟨a1, n1, k1⟩)) (exec_load_any _ (.tmp 2) rfl w.heap.size 0 (fR is room (upS D false ⟨a1, n1, k1⟩)) _ rfl RF.out Try.underlying33 rfl f_info) ?_)
    | (refine wpList_store_bx rfl 33 (.tmp 4) (.tmp 32) rfl (w.heap.size + 1 + 1) (fR is room (upS D false ⟨a1, n1, k1⟩)) zF rfl rfl HR.out f_info rfl (f_one _ _ _) ?_; refine Hid.out ?_))
  refine Lib.hid ?_
  go_wp2
  obtain ⟨h1, h2, h3⟩ := HG.out
  exact bodyPost_ret (results_f2 Try.results12 _ _ (w.heap.size + 1 + 1) (fR is room (upS D false ⟨a1, n1, k1⟩)) rfl rfl (HR.out.row _)) rfl ⟨⟨⟨a1, n1, k1⟩, rfl, h1, h2⟩, h3⟩
end Go.Proofs.Ytgimcapcnidjjaa

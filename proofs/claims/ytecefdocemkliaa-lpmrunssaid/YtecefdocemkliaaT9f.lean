/- put of package lpm: an item is laid in at or below a node. -/
import Derived.Test.YtecefdocemkliaaT9e
namespace Go.Proofs.Ytecefdocemkliaa
open Go Go.RowKit

def putN : Nat → Tb → Nat → Pfx → Int → Option (Nat × Tb)
  | 0, _, _, _, _ => none
  | f + 1, T, n, p, v =>
    if n = 0 then takeN T ⟨p, v, true, 0, 0⟩
    else match T.nds[n]? with
      | none => none
      | some d =>
        if eqP d.p p = true then some (n, { T with nds := T.nds.set n ⟨p, v, true, d.k0, d.k1⟩ })
        else if covP d.p p = true then
          match putN f T (d.kid (sideB p.addr d.p.len)) p v with
          | none => none
          | some (r, T1) =>
            match T1.nds[n]? with
            | none => none
            | some d1 => some (n, { T1 with nds := T1.nds.set n (d1.setKid (sideB p.addr d.p.len) r) })
        else
          match takeN T (forkD d p n) with
          | none => none
          | some (n1, T1) => putN f T1 n1 p v
/-- What a call answers that lays into a table. -/
def LaidT (w : World) (X : Nat → Prop) (g : Nat) (T' : Tb) (r : Nat) (e : Ending) (w' : World) : Prop := e = .returned (.int .i64 (r : Int)) ∧ ∃ X', TabM w' X' g T' ∧ Upd w X w' X'
def HeldP (g : Nat) (v : Value) (b : Nat) (t u : TypeId) (l m : List Value) (W : World) : Prop := W.cell? ⟨g, 4, none⟩ = some v ∧ Bx W b t l ∧ Bx W (b + 1) u m
def HeldQ (b : Nat) (t u : TypeId) (l m : List Value) (W : World) : Prop := Bx W b t l ∧ Bx W (b + 1) u m
set_option maxRecDepth 100000 in
set_option maxHeartbeats 4000000 in
theorem put_zero (T T' : Tb) (p : Pfx) (v : Int) (r : Nat) (w : World) (X : Nat → Prop) (g : Nat) (h : TabM w X g T) (hp : p.addr.length = 16) (hT : takeN T ⟨p, v, true, 0, 0⟩ = some (r, T')) (hl : T.nds.length ≤ 1000000) :
    Calls Try.prog 21 #[.pointer (some ⟨g, 0, none⟩), .int .i64 0, itV p v] w (LaidT w X g T' r) := by
  unfold LaidT
  have HT := Lib.hid (fun W X (h : TabM W X g T) => take_any T T' ⟨p, v, true, 0, 0⟩ r W X g h hp hT hl)
  have hb : Below w.heap.size w (w.alloc (.cells (itR p v).toArray 44)) := (Below.refl _ _).alloc (Nat.le_refl _) _
  have H1 := Lib.hid (h.up hb)
  have HU := Lib.hid (Upd.of_below X hb)
  have HR := Lib.hid (rangeAll (Bx.new w 44 (itR p v)))
  have HP := Lib.hid hp
  rw [show itV p v = .agg (itR p v).toArray from rfl]
  clear h hp hT hb
  go_enter Try.func21, Try.ntmps21
  go_wp2_with (first
    | (refine wpList_load_any rfl 44 (.tmp 5) rfl w.heap.size 0 (itR p v) _ rfl HR.out Try.underlying44 rfl (it_infoC HP.out v) ?_)
    | (refine wpList_build2 rfl 79 0 1 (.tmp 13) _ rfl (itV p v) (.bool true) (Nd.row ⟨p, v, true, 0, 0⟩) rfl rfl (built_nd2 p HP.out v) ?_)
    | (go_at_call 34; refine (HT.out _ X H1.out).mono ?_; rintro e w3 ⟨rfl, X', h7, hu7⟩; refine Hid.out ?_))
  refine Lib.hid ?_
  go_wp2
  go_ret
  exact ⟨rfl, X', h7, HU.out.trans hu7⟩
set_option maxRecDepth 100000 in
set_option maxHeartbeats 4000000 in
theorem put_eq (T : Tb) (n : Nat) (d : Nd) (p : Pfx) (v : Int) (w : World) (X : Nat → Prop) (g : Nat) (h : TabM w X g T) (hp : p.addr.length = 16) (hn0 : n ≠ 0) (hd : T.nds[n]? = some d) (he : eqP d.p p = true) :
    Calls Try.prog 21 #[.pointer (some ⟨g, 0, none⟩), .int .i64 (n : Int), itV p v] w (LaidT w X g { T with nds := T.nds.set n ⟨p, v, true, d.k0, d.k1⟩ } n) := by
  unfold LaidT
  obtain ⟨gn, cap, vf, h⟩ := h
  have hn : n < T.nds.length := (List.getElem?_eq_some_iff.1 hd).1
  have fd := h.addr d (List.mem_of_getElem? hd)
  have hcaps := h.caps
  unfold maxLen at hcaps
  have hb : Below w.heap.size w (w.alloc (.cells (itR p v).toArray 44)) := (Below.refl _ _).alloc (Nat.le_refl _) _
  have h1 := h.up hb
  have c4 := h1.c4
  have R1 := Lib.hid (h1.range n d hd)
  have HZ := Lib.hid (twoB_new w 44 79 (itR p v) d.row)
  have H1 := Lib.hid h
  have HP := Lib.hid hp
  have HD := Lib.hid fd
  have HE := Lib.hid he
  have hsz : (w.alloc (.cells (itR p v).toArray 44)).heap.size = w.heap.size + 1 := by simp
  rw [show itV p v = .agg (itR p v).toArray from rfl]
  clear h h1 fd hp hb he
  go_enter Try.func21, Try.ntmps21
  go_wp2_with (first
    | (refine wpList_load_any rfl 79 (.tmp 21) rfl gn (n * 22) d.row _ rfl R1.out Try.underlying79 rfl (nd_infoC HD.out) ?_)
    | (refine wpList_store_fresh rfl 79 (.tmp 7) (.tmp 22) rfl d.row _ (w.heap.size + 1) rfl (by simp) rfl (nd_infoC HD.out) (by rw [nd_len HD.out]; rfl) (nd_one d) ?_; refine Hid.out ?_))
  refine Lib.hid ?_
  have hz := HZ.out
  have h2 := H1.out.up hz.2.2
  have hu2 := Upd.of_below X hz.2.2
  clear HZ hsz R1 c4
  generalize (w.alloc (.cells (itR p v).toArray 44)).alloc (.cells d.row.toArray 79) = W at *
  have RI := Lib.hid (hz.1.range 0 p.row it_pre)
  have RN := Lib.hid (hz.2.1.range 0 d.p.row nd_pre)
  go_wp2_with (first
    | (refine wpList_load_any rfl 32 (.tmp 33) rfl (w.heap.size + 1) 0 d.p.row _ rfl RN.out Try.underlying32 rfl (pf_infoC HD.out) ?_)
    | (refine wpList_load_any rfl 32 (.tmp 35) rfl w.heap.size 0 p.row _ rfl RI.out Try.underlying32 rfl (pf_infoC HP.out) ?_)
    | (refine wpList_eql_pfxB rfl 34 36 _ rfl d.p p HD.out HP.out true HE.out rfl rfl ?_; refine Hid.out ?_))
  refine Lib.hid ?_
  go_wp2
  have hgn : gn < w.heap.size := H1.out.low gn H1.out.inN
  refine wp_region_noPanic ?_
  refine wp_region_held_drew (S := HeldP g (.slice (some ⟨gn, 0, none⟩) T.nds.length cap) w.heap.size 44 79 (itR p v) d.row) (by kernel_rfl) ⟨h2.c4, hz.1, hz.2.1⟩ (fun hHeld => ?_)
  have h3 : TabG W.drew X g T gn cap vf := ⟨h2.box, h2.nds, h2.free, h2.addr, h2.inG, h2.inN, h2.inF, h2.low⟩
  have hu3 : Upd w X W.drew X := ⟨hu2.os, hu2.tape, hu2.output, hu2.size, hu2.block, hu2.sub⟩
  clear h2 hu2 hz RI RN
  generalize W.drew = W2 at *
  refine held_take (v := ?v97) 0 rfl (by kernel_rfl) (by kernel_rfl) (by kernel_rfl) (fun _ _ _ h => h) (by rfl) ?y97 (by assumption) ?_
  case y97 => (intro w hSw; unfold HeldP at hSw; go_simp; (try with_reducible rfl); (try omega))
  simp only [List.setIfInBounds_toArray, List.set_cons_zero, List.set_cons_succ]
  refine held_take (v := ?v100) 1 rfl (by kernel_rfl) (by kernel_rfl) (by kernel_rfl) (fun _ _ _ h => h) (by rfl) ?y100 (by assumption) ?_
  case y100 => (intro w hSw; unfold HeldP at hSw; go_simp; (try with_reducible rfl); (try omega))
  simp only [List.setIfInBounds_toArray, List.set_cons_zero, List.set_cons_succ]
  refine held_take (v := ?v103) 2 rfl (by kernel_rfl) (by kernel_rfl) (by kernel_rfl) (fun _ _ _ h => h) (by rfl) ?y103 (by assumption) ?_
  case y103 => (intro w hSw; unfold HeldP at hSw; go_simp; (try with_reducible rfl); (try omega))
  simp only [List.setIfInBounds_toArray, List.set_cons_zero, List.set_cons_succ]
  refine held_take (v := ?v106) 3 rfl (by kernel_rfl) (by kernel_rfl) (by kernel_rfl) (fun _ _ _ h => h) (by rfl) ?y106 (by assumption) ?_
  case y106 => (intro w hSw; unfold HeldP at hSw; go_simp; (try with_reducible rfl); (try omega))
  simp only [List.setIfInBounds_toArray, List.set_cons_zero, List.set_cons_succ]
  refine held_take (v := ?v109) 4 rfl (by kernel_rfl) (by kernel_rfl) (by kernel_rfl) (fun _ _ _ h => h) (by rfl) ?y109 (by assumption) ?_
  case y109 => (intro w hSw; unfold HeldP at hSw; go_simp; (try with_reducible rfl); (try omega))
  simp only [List.setIfInBounds_toArray, List.set_cons_zero, List.set_cons_succ]
  refine held_take (v := itV p v) 5 rfl (by kernel_rfl) (by kernel_rfl) (by kernel_rfl) (fun _ _ _ h => h) (by rfl) (fun W hSw => exec_load_any _ (.tmp 5) rfl w.heap.size 0 (itR p v) _ rfl (rangeAll hSw.2.1) Try.underlying44 rfl (it_infoC HP.out v)) (by assumption) ?_
  simp only [List.setIfInBounds_toArray, List.set_cons_zero, List.set_cons_succ]
  refine held_take (v := ?v114) 6 rfl (by kernel_rfl) (by kernel_rfl) (by kernel_rfl) (fun _ _ _ h => h) (by rfl) ?y114 (by assumption) ?_
  case y114 => (intro w hSw; unfold HeldP at hSw; go_simp; (try with_reducible rfl); (try omega))
  simp only [List.setIfInBounds_toArray, List.set_cons_zero, List.set_cons_succ]
  refine held_take (v := .agg #[.int .i64 (d.k0 : Int), .int .i64 (d.k1 : Int)]) 7 rfl (by kernel_rfl) (by kernel_rfl) (by kernel_rfl) (fun _ _ _ h => h) (by rfl) (fun W hSw => exec_load_any _ (.tmp 44) rfl (w.heap.size + 1) 20 [.int .i64 (d.k0 : Int), .int .i64 (d.k1 : Int)] _ rfl (hSw.2.2.range 20 _ (nd_kids HD.out)) Try.underlying77 rfl (by kernel_rfl)) (by assumption) ?_
  simp only [List.setIfInBounds_toArray, List.set_cons_zero, List.set_cons_succ]
  refine held_take (v := Nd.val ⟨p, v, true, d.k0, d.k1⟩) 8 rfl (by kernel_rfl) (by kernel_rfl) (by kernel_rfl) (fun _ _ _ h => h) (by rfl) (fun W hSw => exec_build3 _ 0 1 2 (.tmp 43) _ (.tmp 45) rfl (itV p v) (.bool true) _ (Nd.row ⟨p, v, true, d.k0, d.k1⟩) rfl rfl rfl (built_nd3 p HP.out v d.k0 d.k1)) (by assumption) ?_
  simp only [List.setIfInBounds_toArray, List.set_cons_zero, List.set_cons_succ]
  refine held_take (v := ?v121) 9 rfl (by kernel_rfl) (by kernel_rfl) (by kernel_rfl) (fun _ _ _ h => h) (by rfl) ?y121 (by assumption) ?_
  case y121 => (intro w hSw; unfold HeldP at hSw; go_simp; (try with_reducible rfl); (try omega))
  simp only [List.setIfInBounds_toArray, List.set_cons_zero, List.set_cons_succ]
  refine held_none 10 rfl (by kernel_rfl) (by rfl) (fun K hK => ?_)
  refine wp_store_mid 79 (.tmp 47) (.tmp 46) rfl gn (n * 22) (Nd.row ⟨p, v, true, d.k0, d.k1⟩).toArray rfl rfl ?_ (by simpa using nd_infoC (d := ⟨p, v, true, d.k0, d.k1⟩) HP.out) (all_oneCell_toArray (nd_one _)) ?_
  · exact h3.there n d hd _ (by simp [nd_len (d := ⟨p, v, true, d.k0, d.k1⟩) HP.out])
  · have h4 := h3.setNode n hn ⟨p, v, true, d.k0, d.k1⟩ HP.out
    have hu4 := hu3.trans (Upd.setCells gn h3.inN (Nd.row ⟨p, v, true, d.k0, d.k1⟩) W2 (n * 22))
    have hu5 := Upd.setCells (X := fun k => k = gn) gn rfl (Nd.row ⟨p, v, true, d.k0, d.k1⟩) W2 (n * 22)
    refine hK.out _ _ ⟨h4.c4.trans (by simp), hHeld.2.1.upd hu5 (by omega), hHeld.2.2.upd hu5 (by omega)⟩ (fun _ => ?_)
    clear hK K
    refine wpAnyH_done (by kernel_rfl) ?_ _
    refine NoPanic.normal ?_
    go_wp2
    go_ret
    exact ⟨rfl, X, ⟨gn, cap, _, h4⟩, hu4⟩
end Go.Proofs.Ytecefdocemkliaa

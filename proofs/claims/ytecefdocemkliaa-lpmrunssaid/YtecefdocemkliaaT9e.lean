/- fork of package lpm. -/
import Derived.Test.YtecefdocemkliaaT9d
namespace Go.Proofs.Ytecefdocemkliaa
open Go Go.RowKit

theorem comV_len (p q : Pfx) : (comV p q).addr.length = 16 := by
  unfold comV
  split
  · exact of_len _ _ _
  · rfl
theorem setKid_len (d : Nd) (b : Bool) (k : Nat) : (d.setKid b k).p = d.p := by cases b <;> rfl
def forkD (d : Nd) (p : Pfx) (n : Nat) : Nd := Nd.setKid ⟨comV d.p p, 0, false, 0, 0⟩ (sideB d.p.addr (comV d.p p).len) n
set_option maxRecDepth 100000 in
set_option maxHeartbeats 4000000 in
theorem fork_any (T T' : Tb) (n : Nat) (p : Pfx) (d : Nd) (r : Nat) (w : World) (X : Nat → Prop) (g : Nat) (h : TabM w X g T) (hp : p.addr.length = 16) (hd : T.nds[n]? = some d) (hT : takeN T (forkD d p n) = some (r, T')) (hl : T.nds.length ≤ 1000000) :
    Calls Try.prog 37 #[.pointer (some ⟨g, 0, none⟩), .int .i64 (n : Int), p.val] w fun e w' => e = .returned (.int .i64 (r : Int)) ∧ ∃ X', TabM w' X' g T' ∧ Upd w X w' X' := by
  obtain ⟨gn, cap, vf, h⟩ := h
  have hn : n < T.nds.length := (List.getElem?_eq_some_iff.1 hd).1
  have fd := h.addr d (List.mem_of_getElem? hd)
  have hcaps := h.caps
  unfold maxLen at hcaps
  have hb : Below w.heap.size w (w.alloc (.cells p.row.toArray 32)) := (Below.refl _ _).alloc (Nat.le_refl _) _
  have h1 := h.up hb
  have c4 := h1.c4
  have R1 := Lib.hid (show (w.alloc (.cells p.row.toArray 32)).rangeAt gn (n * 22) d.p.row from fun j v hv => by
    refine h1.range n d hd j v ?_
    unfold Nd.row
    rw [List.getElem?_append_left (List.getElem?_eq_some_iff.1 hv).1]
    exact hv)
  have HC := Lib.hid (fun W => common_any d.p p W fd hp)
  have HCL := Lib.hid (comV_len d.p p)
  have HT := Lib.hid hT
  have H1 := Lib.hid h1
  have HU := Lib.hid (Upd.of_below X hb)
  have HP := Lib.hid hp
  have HD := Lib.hid fd
  have HZ := Lib.hid (twoB_new w 32 32 p.row d.p.row)
  have hsz : (w.alloc (.cells p.row.toArray 32)).heap.size = w.heap.size + 1 := by simp
  rw [show p.val = .agg p.row.toArray from rfl]
  clear h h1 hT fd hp hb
  go_enter Try.func37, Try.ntmps37
  go_wp2_with (first
    | (refine wpList_load_any rfl 32 (.tmp 18) rfl gn (n * 22) d.p.row _ rfl R1.out Try.underlying32 rfl (pf_infoC HD.out) ?_)
    | (refine wpList_store_fresh rfl 32 (.tmp 7) (.tmp 19) rfl d.p.row _ (w.heap.size + 1) rfl (by simp) rfl (pf_infoC HD.out) (by rw [row_len HD.out]; rfl) (row_one d.p) ?_; refine Hid.out ?_))
  refine Lib.hid ?_
  have hb2 : Below w.heap.size w ((w.alloc (.cells p.row.toArray 32)).alloc (.cells d.p.row.toArray 32)) := HZ.out.2.2
  have h2 := H1.out.up ((Below.refl _ _).alloc (Nat.le_refl _) (.cells d.p.row.toArray 32))
  have hu2 := HU.out.trans (Upd.of_below X ((Below.refl _ _).alloc (Nat.le_refl _) (.cells d.p.row.toArray 32)))
  have hz2 := HZ.out
  clear H1 HU HZ hsz R1 c4
  generalize (w.alloc (.cells p.row.toArray 32)).alloc (.cells d.p.row.toArray 32) = W at *
  have RP := Lib.hid (show PfxT W w.heap.size p from hz2.1)
  have RD := Lib.hid (show PfxT W (w.heap.size + 1) d.p from hz2.2.1)
  go_wp2_with (first
    | (refine wpList_load_pfx rfl (.tmp 7) rfl (w.heap.size + 1) d.p HD.out rfl RD.out ?_)
    | (refine wpList_load_pfx rfl (.tmp 5) rfl w.heap.size p HP.out rfl RP.out ?_)
    | (go_at_call 48; refine (HC.out _).mono ?_; rintro e w1 ⟨rfl, b1⟩; refine Hid.out ?_))
  refine Lib.hid ?_
  have h3 := h2.up b1
  have hu3 := hu2.trans (Upd.of_below X b1)
  have RD3 := Lib.hid (RD.out.up b1)
  unfold forkD at HT
  generalize comV d.p p = c at *
  generalize (d.p.six == p.six) = s6 at *
  have HS := Lib.hid (fun W => side_any ⟨c, 0, false, 0, 0⟩ d.p W HCL.out HD.out)
  simp only at HS
  generalize sideB d.p.addr c.len = b at *
  obtain ⟨k, hk⟩ : ∃ k : Nat, k = if b then 1 else 0 := ⟨_, rfl⟩
  rw [show (if b = true then (1 : Int) else 0) = (k : Int) by rw [hk]; cases b <;> rfl] at HS
  have hk2 : k < 2 := by rw [hk]; cases b <;> decide
  have HK := Lib.hid hk
  clear hk
  have HZ3 := Lib.hid (twoB_new w1 32 79 c.row (Nd.row ⟨c, 0, false, 0, 0⟩))
  have h4 := Lib.hid (h3.up HZ3.out.2.2)
  have hu4 := Lib.hid (hu3.trans (Upd.of_below X HZ3.out.2.2))
  have RD4 := Lib.hid (RD3.out.up HZ3.out.2.2)
  have HRC := Lib.hid (show PfxT (w1.alloc (.cells c.row.toArray 32)) w1.heap.size c from Bx.new w1 _ _)
  have HBN := Lib.hid (rangeAll HZ3.out.2.1)
  have hwx : w.heap.size + 1 < w1.heap.size := Nat.lt_of_lt_of_le RD.out.lt b1.size
  have hgw : ∀ k, X k → k < w1.heap.size := h3.low
  have HGW := Lib.hid hgw
  rw [show c.val = .agg c.row.toArray from rfl]
  clear h2 hu2 hz2 RP RD hb2 HC h3 hu3 b1 RD3 hgw
  go_wp2_with (first
    | (refine wpList_store_fresh rfl 32 (.tmp 8) (.tmp 24) rfl c.row _ w1.heap.size rfl rfl rfl (pf_infoC HCL.out) (by rw [row_len HCL.out]; rfl) (row_one c) ?_)
    | (refine wpList_load_pfx rfl (.tmp 8) rfl w1.heap.size c HCL.out rfl HRC.out ?_)
    | (refine wpList_build1 rfl 44 0 (.tmp 26) rfl c.val (itR c 0) rfl (built_it1 c HCL.out) ?_)
    | (refine wpList_build1 rfl 79 0 (.tmp 27) rfl (itV c 0) (Nd.row ⟨c, 0, false, 0, 0⟩) rfl (built_nd1 c HCL.out 0) ?_)
    | (refine wpList_store_fresh rfl 79 (.tmp 10) (.tmp 28) rfl (Nd.row ⟨c, 0, false, 0, 0⟩) _ (w1.heap.size + 1) rfl (by simp) rfl (nd_infoC HCL.out) (by rw [nd_len HCL.out]; rfl) (nd_one _) ?_)
    | (refine wpList_load_any rfl 79 (.tmp 10) rfl (w1.heap.size + 1) 0 (Nd.row ⟨c, 0, false, 0, 0⟩) _ rfl HBN.out Try.underlying79 rfl (nd_infoC HCL.out) ?_)
    | (refine wpList_load_pfx rfl (.tmp 7) rfl (w.heap.size + 1) d.p HD.out rfl RD4.out ?_)
    | (go_at_call 36; refine (HS.out _).mono ?_; rintro e w2 ⟨rfl, b2⟩; refine Hid.out ?_))
  refine Lib.hid ?_
  have b5 : Below w1.heap.size w1 w2 := below_up HZ3.out.2.2 b2 HZ3.out.2.2.size
  have h5 := h4.out.up b2
  have hu5 := hu4.out.trans (Upd.of_below X b2)
  have hn5 := HZ3.out.2.1.up b2
  have hbd : w1.heap.size + 1 < w2.heap.size := hn5.lt
  have cc : (w2.cell? ⟨w1.heap.size + 1, 20 + k, none⟩) = some (.int .i64 0) := by
    rw [hn5.cell]
    unfold Nd.row
    rw [List.getElem?_append_right (by rw [row_len HCL.out]; omega), row_len HCL.out]
    match k, hk2 with
    | 0, _ => rfl
    | 1, _ => rfl
  have zz : w2.frozen? ⟨w1.heap.size + 1, 20 + k, none⟩ = false := hn5.frozen _
  have hset := hn5.set (20 + k) (.int .i64 (n : Int))
  rw [HK.out, nd_set_kid HCL.out b n, ← HK.out] at hset
  have HX : ∀ q, X q → q ≠ w1.heap.size + 1 := fun q hq e => by have := HGW.out q hq; omega
  have h6 : TabG (w2.setCell ⟨w1.heap.size + 1, 20 + k, none⟩ (.int .i64 (n : Int))) X g T gn cap vf := h5.keep (fun q hq => Below.heap_setCell w2 _ _ q (fun e => HX q hq e)) (by simp)
  have hu6 : Upd w X (w2.setCell ⟨w1.heap.size + 1, 20 + k, none⟩ (.int .i64 (n : Int))) X := by
    refine ⟨hu5.os, hu5.tape, hu5.output, by simpa using hu5.size, fun q hq hx => (Below.heap_setCell w2 _ _ q (fun e => ?_)).trans (hu5.block q hq hx), hu5.sub⟩
    simp only at e
    omega
  have HTK := Lib.hid (fun W X (h : TabM W X g T) => take_any T T' (Nd.setKid ⟨c, 0, false, 0, 0⟩ b n) r W X g h (by rw [setKid_len]; exact HCL.out) HT.out hl)
  have HR6 := Lib.hid (rangeAll hset)
  have H6 := Lib.hid h6
  have HU6 := Lib.hid hu6
  clear h4 hu4 RD4 HRC HBN HZ3 HS hn5 h5 hu5 b5 b2 hset h6 hu6
  go_wp2_with (first
    | (refine wpList_load_any rfl 79 (.tmp 10) rfl (w1.heap.size + 1) 0 (Nd.row (Nd.setKid ⟨c, 0, false, 0, 0⟩ b n)) _ rfl HR6.out Try.underlying79 rfl (nd_infoC (by rw [setKid_len]; exact HCL.out)) ?_)
    | (go_at_call 34; refine (HTK.out _ X ⟨_, _, _, H6.out⟩).mono ?_; rintro e w3 ⟨rfl, X', h7, hu7⟩; refine Hid.out ?_))
  refine Lib.hid ?_
  go_wp2
  go_ret
  exact ⟨rfl, X', h7, HU6.out.trans hu7⟩
end Go.Proofs.Ytecefdocemkliaa

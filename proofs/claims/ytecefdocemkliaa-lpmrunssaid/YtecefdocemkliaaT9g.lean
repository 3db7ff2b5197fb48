/- put of package lpm: below a node, and where two part. -/
import Derived.Test.YtecefdocemkliaaT9f
namespace Go.Proofs.Ytecefdocemkliaa
open Go Go.RowKit

theorem HeldQ.upd {b : Nat} {t u : TypeId} {l m : List Value} {W W' : World} {X X' : Nat → Prop} (h : HeldQ b t u l m W) (hu : Upd W X W' X') (hX : ∀ k, X k → k < b) : HeldQ b t u l m W' :=
  ⟨h.1.upd hu (fun hx => by have := hX _ hx; omega), h.2.upd hu (fun hx => by have := hX _ hx; omega)⟩
theorem kid_cell {W : World} {b : Nat} {d : Nd} (f : d.p.addr.length = 16) (h : Bx W b 79 d.row) (s : Bool) (k : Nat) (hk : k = if s then 1 else 0) : W.cell? ⟨b, 20 + k, none⟩ = some (.int .i64 ((d.kid s : Nat) : Int)) := by
  rw [h.cell, hk]
  cases s
  · exact nd_k0 f
  · exact nd_k1 f
set_option maxRecDepth 100000 in
set_option maxHeartbeats 4000000 in
theorem put_cov (T T1 : Tb) (n r : Nat) (d d1 : Nd) (p : Pfx) (v : Int) (w : World) (X : Nat → Prop) (g : Nat) (h : TabM w X g T) (hp : p.addr.length = 16) (hn0 : n ≠ 0) (hd : T.nds[n]? = some d) (he : eqP d.p p = false) (hc : covP d.p p = true)
    (hrec : ∀ W X, TabM W X g T → Calls Try.prog 21 #[.pointer (some ⟨g, 0, none⟩), .int .i64 ((d.kid (sideB p.addr d.p.len) : Nat) : Int), itV p v] W (LaidT W X g T1 r)) (hd1 : T1.nds[n]? = some d1) :
    Calls Try.prog 21 #[.pointer (some ⟨g, 0, none⟩), .int .i64 (n : Int), itV p v] w (LaidT w X g { T1 with nds := T1.nds.set n (d1.setKid (sideB p.addr d.p.len) r) } n) := by
  unfold LaidT at hrec ⊢
  obtain ⟨gn, cap, vf, h⟩ := h
  have hn : n < T.nds.length := (List.getElem?_eq_some_iff.1 hd).1
  have hn1 : n < T1.nds.length := (List.getElem?_eq_some_iff.1 hd1).1
  have fd := h.addr d (List.mem_of_getElem? hd)
  have hcaps := h.caps
  unfold maxLen at hcaps
  have hb : Below w.heap.size w (w.alloc (.cells (itR p v).toArray 44)) := (Below.refl _ _).alloc (Nat.le_refl _) _
  have h1 := h.up hb
  have c4 := h1.c4
  have R1 := Lib.hid (h1.range n d hd)
  have HZ := Lib.hid (twoB_new w 44 79 (itR p v) d.row)
  have H1 := Lib.hid h
  have HP := Lib.hid hp
  have HD := Lib.hid fd
  have HE := Lib.hid he
  have HC := Lib.hid (fun W => covers_any d.p p W fd hp)
  rw [hc] at HC
  have HS := Lib.hid (fun W => side_any d p W fd hp)
  have HR := Lib.hid hrec
  generalize sideB p.addr d.p.len = s at *
  obtain ⟨k, hk⟩ : ∃ k : Nat, k = if s then 1 else 0 := ⟨_, rfl⟩
  rw [show (if s = true then (1 : Int) else 0) = (k : Int) by rw [hk]; cases s <;> rfl] at HS
  have hk2 : k < 2 := by rw [hk]; cases s <;> decide
  have HK := Lib.hid hk
  have hk3 : (k : Int) < 2 := by omega
  have hsz : (w.alloc (.cells (itR p v).toArray 44)).heap.size = w.heap.size + 1 := by simp
  rw [show itV p v = .agg (itR p v).toArray from rfl]
  clear h h1 fd hp hb he hc hrec hk
  go_enter Try.func21, Try.ntmps21
  go_wp2_with (first
    | (refine wpList_load_any rfl 79 (.tmp 21) rfl gn (n * 22) d.row _ rfl R1.out Try.underlying79 rfl (nd_infoC HD.out) ?_)
    | (refine wpList_store_fresh rfl 79 (.tmp 7) (.tmp 22) rfl d.row _ (w.heap.size + 1) rfl (by simp) rfl (nd_infoC HD.out) (by rw [nd_len HD.out]; rfl) (nd_one d) ?_; refine Hid.out ?_))
  refine Lib.hid ?_
  have hz := HZ.out
  have h2 := H1.out.up hz.2.2
  have hu2 := Upd.of_below X hz.2.2
  clear HZ hsz R1 c4
  generalize (w.alloc (.cells (itR p v).toArray 44)).alloc (.cells d.row.toArray 79) = W at *
  have RI := Lib.hid (hz.1.range 0 p.row it_pre)
  have RN := Lib.hid (hz.2.1.range 0 d.p.row nd_pre)
  go_wp2_with (first
    | (refine wpList_load_any rfl 32 (.tmp 33) rfl (w.heap.size + 1) 0 d.p.row _ rfl RN.out Try.underlying32 rfl (pf_infoC HD.out) ?_)
    | (refine wpList_load_any rfl 32 (.tmp 35) rfl w.heap.size 0 p.row _ rfl RI.out Try.underlying32 rfl (pf_infoC HP.out) ?_)
    | (refine wpList_load_any rfl 32 (.tmp 50) rfl (w.heap.size + 1) 0 d.p.row _ rfl RN.out Try.underlying32 rfl (pf_infoC HD.out) ?_)
    | (refine wpList_load_any rfl 32 (.tmp 52) rfl w.heap.size 0 p.row _ rfl RI.out Try.underlying32 rfl (pf_infoC HP.out) ?_)
    | (refine wpList_eql_pfxB rfl 34 36 _ rfl d.p p HD.out HP.out false HE.out rfl rfl ?_)
    | (go_at_call 35; refine (HC.out _).mono ?_; rintro e w1 ⟨rfl, b1⟩; refine Hid.out ?_))
  refine Lib.hid ?_
  have hz1 := hz.up b1
  have h3 := h2.up b1
  have hu3 := hu2.trans (Upd.of_below X b1)
  clear hz h2 hu2 RI RN b1
  have RI := Lib.hid (hz1.1.range 0 p.row it_pre)
  have RN := Lib.hid (rangeAll hz1.2.1)
  go_wp2_with (first
    | (refine wpList_load_any rfl 79 (.tmp 7) rfl (w.heap.size + 1) 0 d.row _ rfl RN.out Try.underlying79 rfl (nd_infoC HD.out) ?_)
    | (refine wpList_load_any rfl 32 (.tmp 56) rfl w.heap.size 0 p.row _ rfl RI.out Try.underlying32 rfl (pf_infoC HP.out) ?_)
    | (go_at_call 36; refine (HS.out _).mono ?_; rintro e w2 ⟨rfl, b2⟩; refine Hid.out ?_))
  refine Lib.hid ?_
  have hz2 := hz1.up b2
  have h4 := h3.up b2
  have hu4 := hu3.trans (Upd.of_below X b2)
  clear hz1 h3 hu3 RI RN b2
  have HXL := Lib.hid H1.out.low
  go_wp2
  refine wp_region_noPanic ?_
  refine wp_region_held_drew (S := HeldQ w.heap.size 44 79 (itR p v) d.row) (by kernel_rfl) ⟨hz2.1, hz2.2.1⟩ (fun hHeld => ?_)
  have h5 : TabG w2.drew X g T gn cap vf := ⟨h4.box, h4.nds, h4.free, h4.addr, h4.inG, h4.inN, h4.inF, h4.low⟩
  have hu5 : Upd w X w2.drew X := ⟨hu4.os, hu4.tape, hu4.output, hu4.size, hu4.block, hu4.sub⟩
  clear h4 hu4 hz2
  generalize w2.drew = W2 at *
  refine held_take (v := ?v89) 0 rfl (by kernel_rfl) (by kernel_rfl) (by kernel_rfl) (fun _ _ _ h => h) (by rfl) ?y89 (by assumption) ?_
  case y89 => (intro w hSw; unfold HeldQ at hSw; go_simp; (try with_reducible rfl); (try omega))
  simp only [List.setIfInBounds_toArray, List.set_cons_zero, List.set_cons_succ]
  refine held_take (v := ?v92) 1 rfl (by kernel_rfl) (by kernel_rfl) (by kernel_rfl) (fun _ _ _ h => h) (by rfl) ?y92 (by assumption) ?_
  case y92 => (intro w hSw; unfold HeldQ at hSw; go_simp; (try with_reducible rfl); (try omega))
  simp only [List.setIfInBounds_toArray, List.set_cons_zero, List.set_cons_succ]
  refine held_take (v := ?v95) 2 rfl (by kernel_rfl) (by kernel_rfl) (by kernel_rfl) (fun _ _ _ h => h) (by rfl) ?y95 (by assumption) ?_
  case y95 => (intro w hSw; unfold HeldQ at hSw; go_simp; (try with_reducible rfl); (try omega))
  simp only [List.setIfInBounds_toArray, List.set_cons_zero, List.set_cons_succ]
  refine held_take (v := ?v98) 3 rfl (by kernel_rfl) (by kernel_rfl) (by kernel_rfl) (fun _ _ _ h => h) (by rfl) ?y98 (by assumption) ?_
  case y98 => (intro w hSw; unfold HeldQ at hSw; go_simp; (try with_reducible rfl); (try omega))
  simp only [List.setIfInBounds_toArray, List.set_cons_zero, List.set_cons_succ]
  refine held_take (v := .int .i64 ((d.kid s : Nat) : Int)) 4 rfl (by kernel_rfl) (by kernel_rfl) (by kernel_rfl) (fun _ _ _ h => h) (by rfl) (fun W hSw => (by have hc := kid_cell HD.out hSw.2 s k HK.out; go_simp)) (by assumption) ?_
  simp only [List.setIfInBounds_toArray, List.set_cons_zero, List.set_cons_succ]
  refine held_take (v := itV p v) 5 rfl (by kernel_rfl) (by kernel_rfl) (by kernel_rfl) (fun _ _ _ h => h) (by rfl) (fun W hSw => exec_load_any _ (.tmp 5) rfl w.heap.size 0 (itR p v) _ rfl (rangeAll hSw.1) Try.underlying44 rfl (it_infoC HP.out v)) (by assumption) ?_
  simp only [List.setIfInBounds_toArray, List.set_cons_zero, List.set_cons_succ]
  refine held_one 6 rfl (by kernel_rfl) (by rfl) (fun K hK => ?_)
  go_simp
  refine (HR.out _ X ⟨_, _, _, h5⟩).mono ?_
  rintro e w3 ⟨rfl, X', ⟨gn', cap', vf', h6⟩, hu6⟩
  have hH6 := HeldQ.upd hHeld hu6 HXL.out
  refine hK.out _ _ hH6 (fun _ => ?_)
  clear hK K
  refine held_take (v := ?v112) 7 rfl (by kernel_rfl) (by kernel_rfl) (by kernel_rfl) (fun _ _ _ h => h) (by rfl) ?y112 (by assumption) ?_
  case y112 => (intro w hSw; unfold HeldQ at hSw; go_simp; (try with_reducible rfl); (try omega))
  simp only [List.setIfInBounds_toArray, List.set_cons_zero, List.set_cons_succ]
  refine wpAnyH_done (by kernel_rfl) ?_ _
  refine NoPanic.normal ?_
  have c4 := h6.c4
  have hcaps1 := h6.caps
  unfold maxLen at hcaps1
  have hth := h6.there n d1 hd1 22 (by omega) (20 + k) (by omega)
  have z4 : w3.frozen? ⟨gn', n * 22 + (20 + k), none⟩ = false := hth.2
  obtain ⟨old, hold⟩ := Option.isSome_iff_exists.1 hth.1
  have z5 : w3.frozen? ⟨gn', n * 22 + 20 + k, none⟩ = false := by rw [Nat.add_assoc]; exact z4
  have hold5 : w3.cell? ⟨gn', n * 22 + 20 + k, none⟩ = some old := by rw [Nat.add_assoc]; exact hold
  have H7 := h6.setKid n d1 hd1 s r
  rw [← HK.out, ← Nat.add_assoc] at H7
  have HU7 := (hu5.trans hu6).trans (Upd.setCell gn' (n * 22 + 20 + k) (.int .i64 (r : Int)) h6.inN)
  have H7 := Lib.hid H7
  have HU7 := Lib.hid HU7
  clear h6 hu6 hu5 h5 hth hH6 hHeld H1 HR HS HC
  go_wp2
  go_ret
  exact ⟨rfl, X', ⟨_, _, _, H7.out⟩, HU7.out⟩
set_option maxRecDepth 100000 in
set_option maxHeartbeats 4000000 in
theorem put_fork (T T1 T2 : Tb) (n n1 r : Nat) (d : Nd) (p : Pfx) (v : Int) (w : World) (X : Nat → Prop) (g : Nat) (h : TabM w X g T) (hp : p.addr.length = 16) (hn0 : n ≠ 0) (hd : T.nds[n]? = some d) (he : eqP d.p p = false) (hc : covP d.p p = false)
    (hf : takeN T (forkD d p n) = some (n1, T1)) (hl : T.nds.length ≤ 1000000)
    (hrec : ∀ W X, TabM W X g T1 → Calls Try.prog 21 #[.pointer (some ⟨g, 0, none⟩), .int .i64 (n1 : Int), itV p v] W (LaidT W X g T2 r)) :
    Calls Try.prog 21 #[.pointer (some ⟨g, 0, none⟩), .int .i64 (n : Int), itV p v] w (LaidT w X g T2 r) := by
  unfold LaidT at hrec ⊢
  obtain ⟨gn, cap, vf, h⟩ := h
  have hn : n < T.nds.length := (List.getElem?_eq_some_iff.1 hd).1
  have fd := h.addr d (List.mem_of_getElem? hd)
  have hcaps := h.caps
  unfold maxLen at hcaps
  have hb : Below w.heap.size w (w.alloc (.cells (itR p v).toArray 44)) := (Below.refl _ _).alloc (Nat.le_refl _) _
  have h1 := h.up hb
  have c4 := h1.c4
  have R1 := Lib.hid (h1.range n d hd)
  have HZ := Lib.hid (twoB_new w 44 79 (itR p v) d.row)
  have H1 := Lib.hid h
  have HP := Lib.hid hp
  have HD := Lib.hid fd
  have HE := Lib.hid he
  have HC := Lib.hid (fun W => covers_any d.p p W fd hp)
  rw [hc] at HC
  have HF := Lib.hid (fun W X (h : TabM W X g T) => fork_any T T1 n p d n1 W X g h hp hd hf hl)
  have HR := Lib.hid hrec
  have hsz : (w.alloc (.cells (itR p v).toArray 44)).heap.size = w.heap.size + 1 := by simp
  rw [show itV p v = .agg (itR p v).toArray from rfl]
  clear h h1 fd hp hb he hc hrec hf
  go_enter Try.func21, Try.ntmps21
  go_wp2_with (first
    | (refine wpList_load_any rfl 79 (.tmp 21) rfl gn (n * 22) d.row _ rfl R1.out Try.underlying79 rfl (nd_infoC HD.out) ?_)
    | (refine wpList_store_fresh rfl 79 (.tmp 7) (.tmp 22) rfl d.row _ (w.heap.size + 1) rfl (by simp) rfl (nd_infoC HD.out) (by rw [nd_len HD.out]; rfl) (nd_one d) ?_; refine Hid.out ?_))
  refine Lib.hid ?_
  have hz := HZ.out
  have h2 := H1.out.up hz.2.2
  have hu2 := Upd.of_below X hz.2.2
  clear HZ hsz R1 c4
  generalize (w.alloc (.cells (itR p v).toArray 44)).alloc (.cells d.row.toArray 79) = W at *
  have RI := Lib.hid (hz.1.range 0 p.row it_pre)
  have RN := Lib.hid (hz.2.1.range 0 d.p.row nd_pre)
  go_wp2_with (first
    | (refine wpList_load_any rfl 32 (.tmp 33) rfl (w.heap.size + 1) 0 d.p.row _ rfl RN.out Try.underlying32 rfl (pf_infoC HD.out) ?_)
    | (refine wpList_load_any rfl 32 (.tmp 35) rfl w.heap.size 0 p.row _ rfl RI.out Try.underlying32 rfl (pf_infoC HP.out) ?_)
    | (refine wpList_load_any rfl 32 (.tmp 50) rfl (w.heap.size + 1) 0 d.p.row _ rfl RN.out Try.underlying32 rfl (pf_infoC HD.out) ?_)
    | (refine wpList_load_any rfl 32 (.tmp 52) rfl w.heap.size 0 p.row _ rfl RI.out Try.underlying32 rfl (pf_infoC HP.out) ?_)
    | (refine wpList_eql_pfxB rfl 34 36 _ rfl d.p p HD.out HP.out false HE.out rfl rfl ?_)
    | (go_at_call 35; refine (HC.out _).mono ?_; rintro e w1 ⟨rfl, b1⟩; refine Hid.out ?_))
  refine Lib.hid ?_
  have hz1 := hz.up b1
  have h3 := h2.up b1
  have hu3 := hu2.trans (Upd.of_below X b1)
  clear hz h2 hu2 RI RN b1
  have HXL := Lib.hid H1.out.low
  go_wp2
  refine wp_region_noPanic ?_
  refine wp_region_held_drew (S := HeldQ w.heap.size 44 79 (itR p v) d.row) (by kernel_rfl) ⟨hz1.1, hz1.2.1⟩ (fun hHeld => ?_)
  have h5 : TabG w1.drew X g T gn cap vf := ⟨h3.box, h3.nds, h3.free, h3.addr, h3.inG, h3.inN, h3.inF, h3.low⟩
  have hu5 : Upd w X w1.drew X := ⟨hu3.os, hu3.tape, hu3.output, hu3.size, hu3.block, hu3.sub⟩
  have hwl : w.heap.size + 1 < w1.drew.heap.size := hz1.2.1.lt
  clear h3 hu3 hz1
  generalize w1.drew = W2 at *
  refine held_take (v := ?v195) 0 rfl (by kernel_rfl) (by kernel_rfl) (by kernel_rfl) (fun _ _ _ h => h) (by rfl) ?y195 (by assumption) ?_
  case y195 => (intro w hSw; unfold HeldQ at hSw; go_simp; (try with_reducible rfl); (try omega))
  simp only [List.setIfInBounds_toArray, List.set_cons_zero, List.set_cons_succ]
  refine held_take (v := ?v198) 1 rfl (by kernel_rfl) (by kernel_rfl) (by kernel_rfl) (fun _ _ _ h => h) (by rfl) ?y198 (by assumption) ?_
  case y198 => (intro w hSw; unfold HeldQ at hSw; go_simp; (try with_reducible rfl); (try omega))
  simp only [List.setIfInBounds_toArray, List.set_cons_zero, List.set_cons_succ]
  refine held_take (v := ?v201) 2 rfl (by kernel_rfl) (by kernel_rfl) (by kernel_rfl) (fun _ _ _ h => h) (by rfl) ?y201 (by assumption) ?_
  case y201 => (intro w hSw; unfold HeldQ at hSw; go_simp; (try with_reducible rfl); (try omega))
  simp only [List.setIfInBounds_toArray, List.set_cons_zero, List.set_cons_succ]
  refine held_take (v := ?v204) 3 rfl (by kernel_rfl) (by kernel_rfl) (by kernel_rfl) (fun _ _ _ h => h) (by rfl) ?y204 (by assumption) ?_
  case y204 => (intro w hSw; unfold HeldQ at hSw; go_simp; (try with_reducible rfl); (try omega))
  simp only [List.setIfInBounds_toArray, List.set_cons_zero, List.set_cons_succ]
  refine held_take (v := p.val) 4 rfl (by kernel_rfl) (by kernel_rfl) (by kernel_rfl) (fun _ _ _ h => h) (by rfl) (fun W hSw => exec_load_any _ (.tmp 26) rfl w.heap.size 0 p.row _ rfl (hSw.1.range 0 p.row it_pre) Try.underlying32 rfl (pf_infoC HP.out)) (by assumption) ?_
  simp only [List.setIfInBounds_toArray, List.set_cons_zero, List.set_cons_succ]
  refine held_take (v := itV p v) 6 rfl (by kernel_rfl) (by kernel_rfl) (by kernel_rfl) (fun _ _ _ h => h) (by rfl) (fun W hSw => exec_load_any _ (.tmp 5) rfl w.heap.size 0 (itR p v) _ rfl (rangeAll hSw.1) Try.underlying44 rfl (it_infoC HP.out v)) (by assumption) ?_
  simp only [List.setIfInBounds_toArray, List.set_cons_zero, List.set_cons_succ]
  refine held_one 5 rfl (by kernel_rfl) (by rfl) (fun K hK => ?_)
  go_simp
  refine (HF.out _ X ⟨_, _, _, h5⟩).mono ?_
  rintro e w3 ⟨rfl, X1, h6, hu6⟩
  have hH6 := HeldQ.upd hHeld hu6 HXL.out
  refine hK.out _ _ hH6 (fun _ => ?_)
  clear hK K
  refine held_one 7 rfl (by kernel_rfl) (by rfl) (fun K hK => ?_)
  go_simp
  refine (HR.out _ X1 h6).mono ?_
  rintro e w4 ⟨rfl, X2, h7, hu7⟩
  have hX1 : ¬ X1 w.heap.size ∧ ¬ X1 (w.heap.size + 1) := by
    constructor <;> (intro hx; have := (hu6.sub _ hx).imp_left (HXL.out _); omega)
  refine hK.out _ _ ⟨hH6.1.upd hu7 hX1.1, hH6.2.upd hu7 hX1.2⟩ (fun _ => ?_)
  clear hK K
  have hH7 : HeldQ w.heap.size 44 79 (itR p v) d.row w4 := ⟨hH6.1.upd hu7 hX1.1, hH6.2.upd hu7 hX1.2⟩
  refine held_take (v := ?v227) 8 rfl (by kernel_rfl) (by kernel_rfl) (by kernel_rfl) (fun _ _ _ h => h) (by rfl) ?y227 (by assumption) ?_
  case y227 => (intro w hSw; unfold HeldQ at hSw; go_simp; (try with_reducible rfl); (try omega))
  simp only [List.setIfInBounds_toArray, List.set_cons_zero, List.set_cons_succ]
  refine wpAnyH_done (by kernel_rfl) ?_ _
  refine NoPanic.normal ?_
  go_wp2
  go_ret
  exact ⟨rfl, X2, h7, (hu5.trans hu6).trans hu7⟩
theorem takeN_len {T T' : Tb} {d : Nd} {r : Nat} (h : takeN T d = some (r, T')) : T'.nds.length ≤ T.nds.length + 1 := by
  unfold takeN at h
  split at h
  · split at h
    · cases h; simp
    · cases h
  · cases h; simp
/-- put, as it reckons. -/
theorem put_any : ∀ (f : Nat) (T T' : Tb) (n r : Nat) (p : Pfx) (v : Int) (w : World) (X : Nat → Prop) (g : Nat), TabM w X g T → p.addr.length = 16 → putN f T n p v = some (r, T') → T.nds.length + f ≤ 1000000 →
    Calls Try.prog 21 #[.pointer (some ⟨g, 0, none⟩), .int .i64 (n : Int), itV p v] w (LaidT w X g T' r)
  | 0, T, T', n, r, p, v, w, X, g, _, _, hT, _ => by cases hT
  | f + 1, T, T', n, r, p, v, w, X, g, h, hp, hT, hl => by
    unfold putN at hT
    split at hT
    · rename_i hn
      subst hn
      exact put_zero T T' p v r w X g h hp hT (by omega)
    · rename_i hn
      split at hT
      · cases hT
      · rename_i d hd
        split at hT
        · rename_i he
          cases hT
          exact put_eq T n d p v w X g h hp hn hd he
        · rename_i he
          have he : eqP d.p p = false := by simpa using he
          split at hT
          · rename_i hc
            split at hT
            · cases hT
            · rename_i r1 T1 hr
              split at hT
              · cases hT
              · rename_i d1 hd1
                cases hT
                exact put_cov T T1 n r1 d d1 p v w X g h hp hn hd he hc (fun W Y hW => put_any f T T1 _ r1 p v W Y g hW hp hr (by omega)) hd1
          · rename_i hc
            have hc : covP d.p p = false := by simpa using hc
            split at hT
            · cases hT
            · rename_i n1 T1 hf
              have := takeN_len hf
              exact put_fork T T1 T' n n1 r d p v w X g h hp hn hd he hc hf (by omega) (fun W Y hW => put_any f T1 T' n1 r p v W Y g hW hp hT (by omega))
end Go.Proofs.Ytecefdocemkliaa

/- remove of package lpm, below a node. -/
import Derived.Test.YtecefdocemkliaaT9h
namespace Go.Proofs.Ytecefdocemkliaa
open Go Go.RowKit

def HeldR (b : Nat) (t : TypeId) (l : List Value) (W : World) : Prop := Bx W b t l
set_option maxRecDepth 100000 in
set_option maxHeartbeats 8000000 in
theorem rem_rec (T T1 T' : Tb) (n r1 r : Nat) (d : Nd) (p : Pfx) (w : World) (X : Nat → Prop) (g : Nat) (h : TabM w X g T) (hp : p.addr.length = 16) (hd : T.nds[n]? = some d) (he : eqP d.p p = false)
    (hrec : ∀ W X, TabM W X g T → Calls Try.prog 22 #[.pointer (some ⟨g, 0, none⟩), .int .i64 ((d.kid (sideB p.addr d.p.len) : Nat) : Int), p.val] W (LaidT W X g T1 r1))
    (hfin : finR T1 n (d.setKid (sideB p.addr d.p.len) r1) = some (r, T')) (hfl : T1.free.length ≤ 1000000) :
    Calls Try.prog 22 #[.pointer (some ⟨g, 0, none⟩), .int .i64 (n : Int), p.val] w (LaidT w X g T' r) := by
  unfold LaidT at hrec
  unfold LaidT
  obtain ⟨gn, cap, vf, h⟩ := h
  have hn : n < T.nds.length := (List.getElem?_eq_some_iff.1 hd).1
  have fd := h.addr d (List.mem_of_getElem? hd)
  have hcaps := h.caps
  unfold maxLen at hcaps
  have hb : Below w.heap.size w (w.alloc (.cells p.row.toArray 32)) := (Below.refl _ _).alloc (Nat.le_refl _) _
  have h1 := h.up hb
  have c4 := h1.c4
  have R1 := Lib.hid (h1.range n d hd)
  have HZ := Lib.hid (twoB_new w 32 79 p.row d.row)
  have H1 := Lib.hid h
  have HP := Lib.hid hp
  have HD := Lib.hid fd
  have HE := Lib.hid he
  have hsz : (w.alloc (.cells p.row.toArray 32)).heap.size = w.heap.size + 1 := by simp
  have HS := Lib.hid (fun W => side_any d p W fd hp)
  have HR := Lib.hid hrec
  generalize sideB p.addr d.p.len = s at *
  obtain ⟨k, hk⟩ : ∃ k : Nat, k = if s then 1 else 0 := ⟨_, rfl⟩
  rw [show (if s = true then (1 : Int) else 0) = (k : Int) by rw [hk]; cases s <;> rfl] at HS
  have hk2 : k < 2 := by rw [hk]; cases s <;> decide
  have HK := Lib.hid hk
  have hk3 : (k : Int) < 2 := by omega
  clear hrec hk
  rw [show p.val = .agg p.row.toArray from rfl]
  clear h h1 fd hp hb he
  go_enter Try.func22, Try.ntmps22
  go_wp2_with (first
    | (refine wpList_load_any rfl 79 (.tmp 14) rfl gn (n * 22) d.row _ rfl R1.out Try.underlying79 rfl (nd_infoC HD.out) ?_)
    | (refine wpList_store_fresh rfl 79 (.tmp 7) (.tmp 15) rfl d.row _ (w.heap.size + 1) rfl (by simp) rfl (nd_infoC HD.out) (by rw [nd_len HD.out]; rfl) (nd_one d) ?_; refine Hid.out ?_))
  refine Lib.hid ?_
  have hz := HZ.out
  have h2 := H1.out.up hz.2.2
  have hu2 := Upd.of_below X hz.2.2
  clear HZ hsz R1 c4
  generalize (w.alloc (.cells p.row.toArray 32)).alloc (.cells d.row.toArray 79) = W0 at *
  have RI := Lib.hid (rangeAll hz.1)
  have RN := Lib.hid (hz.2.1.range 0 d.p.row nd_pre)
  have HXL := Lib.hid H1.out.low
  have RNN := Lib.hid (rangeAll hz.2.1)
  go_wp2_with (first
    | (refine wpList_load_any rfl 32 (.tmp 17) rfl (w.heap.size + 1) 0 d.p.row _ rfl RN.out Try.underlying32 rfl (pf_infoC HD.out) ?_)
    | (refine wpList_load_any rfl 32 (.tmp 5) rfl w.heap.size 0 p.row _ rfl RI.out Try.underlying32 rfl (pf_infoC HP.out) ?_)
    | (refine wpList_eql_pfxB rfl 18 19 _ rfl d.p p HD.out HP.out false HE.out rfl rfl ?_)
    | (refine wpList_load_any rfl 79 (.tmp 7) rfl (w.heap.size + 1) 0 d.row _ rfl RNN.out Try.underlying79 rfl (nd_infoC HD.out) ?_)
    | (go_at_call 36; refine (HS.out _).mono ?_; rintro e w2 ⟨rfl, b2⟩; refine Hid.out ?_))
  refine Lib.hid ?_
  have hz2 := hz.up b2
  have h4 := h2.up b2
  have hu4 := hu2.trans (Upd.of_below X b2)
  clear hz h2 hu2 RI RN RNN b2
  go_wp2
  refine wp_region_noPanic ?_
  refine wp_region_held_drew (S := HeldR w.heap.size 32 p.row) (by kernel_rfl) hz2.1 (fun hHeld => ?_)
  have h5 : TabG w2.drew X g T gn cap vf := ⟨h4.box, h4.nds, h4.free, h4.addr, h4.inG, h4.inN, h4.inF, h4.low⟩
  have hu5 : Upd w X w2.drew X := ⟨hu4.os, hu4.tape, hu4.output, hu4.size, hu4.block, hu4.sub⟩
  have hzN5 : Bx w2.drew (w.heap.size + 1) 79 d.row := hz2.2.1
  clear h4 hu4 hz2
  generalize w2.drew = W2 at *
  have hkc := kid_cell HD.out hzN5 s k HK.out
  refine held_take (v := ?v74) 0 rfl (by kernel_rfl) (by kernel_rfl) (by kernel_rfl) (fun _ _ _ h => h) (by rfl) ?y74 (by assumption) ?_
  case y74 => (intro w hSw; unfold HeldR at hSw; go_simp; (try with_reducible rfl); (try omega))
  simp only [List.setIfInBounds_toArray, List.set_cons_zero, List.set_cons_succ]
  refine held_take (v := ?v77) 1 rfl (by kernel_rfl) (by kernel_rfl) (by kernel_rfl) (fun _ _ _ h => h) (by rfl) ?y77 (by assumption) ?_
  case y77 => (intro w hSw; unfold HeldR at hSw; go_simp; (try with_reducible rfl); (try omega))
  simp only [List.setIfInBounds_toArray, List.set_cons_zero, List.set_cons_succ]
  refine held_take (v := ?v80) 2 rfl (by kernel_rfl) (by kernel_rfl) (by kernel_rfl) (fun _ _ _ h => h) (by rfl) ?y80 (by assumption) ?_
  case y80 => (intro w hSw; unfold HeldR at hSw; go_simp; (try with_reducible rfl); (try omega))
  simp only [List.setIfInBounds_toArray, List.set_cons_zero, List.set_cons_succ]
  refine held_take (v := ?v83) 3 rfl (by kernel_rfl) (by kernel_rfl) (by kernel_rfl) (fun _ _ _ h => h) (by rfl) ?y83 (by assumption) ?_
  case y83 => (intro w hSw; unfold HeldR at hSw; go_simp; (try with_reducible rfl); (try omega))
  simp only [List.setIfInBounds_toArray, List.set_cons_zero, List.set_cons_succ]
  refine held_take (v := ?v86) 4 rfl (by kernel_rfl) (by kernel_rfl) (by kernel_rfl) (fun _ _ _ h => h) (by rfl) ?y86 (by assumption) ?_
  case y86 => (intro w hSw; unfold HeldR at hSw; go_simp; (try with_reducible rfl); (try omega))
  simp only [List.setIfInBounds_toArray, List.set_cons_zero, List.set_cons_succ]
  refine held_take (v := ?v89) 8 rfl (by kernel_rfl) (by kernel_rfl) (by kernel_rfl) (fun _ _ _ h => h) (by rfl) ?y89 (by assumption) ?_
  case y89 => (intro w hSw; unfold HeldR at hSw; go_simp; (try with_reducible rfl); (try omega))
  simp only [List.setIfInBounds_toArray, List.set_cons_zero, List.set_cons_succ]
  refine held_take (v := p.val) 6 rfl (by kernel_rfl) (by kernel_rfl) (by kernel_rfl) (fun _ _ _ h => h) (by rfl) (fun W hSw => exec_load_any _ (.tmp 5) rfl w.heap.size 0 p.row _ rfl (rangeAll hSw) Try.underlying32 rfl (pf_infoC HP.out)) (by assumption) ?_
  simp only [List.setIfInBounds_toArray, List.set_cons_zero, List.set_cons_succ]
  refine held_one 5 rfl (by kernel_rfl) (by rfl) (fun K hK => ?_)
  go_simp
  refine hK.out _ _ hHeld (fun _ => ?_)
  clear hK K
  (try simp only [List.setIfInBounds_toArray, List.set_cons_zero, List.set_cons_succ])
  refine held_one 7 rfl (by kernel_rfl) (by rfl) (fun K hK => ?_)
  go_simp
  refine (HR.out _ X ⟨_, _, _, h5⟩).mono ?_
  rintro e w3 ⟨rfl, X1, ⟨gn1, cap1, vf1, h6⟩, hu6⟩
  have hX0 : ¬ X w.heap.size ∧ ¬ X (w.heap.size + 1) := by
    constructor <;> (intro hx; have := HXL.out _ hx; omega)
  have hH6 : HeldR w.heap.size 32 p.row w3 := Bx.upd hHeld hu6 hX0.1
  have hzN6 := hzN5.upd hu6 hX0.2
  have hX1 : ¬ X1 (w.heap.size + 1) := by
    intro hx
    have := hzN5.lt
    have := (hu6.sub _ hx).imp_left (HXL.out _)
    omega
  refine hK.out _ _ hH6 (fun _ => ?_)
  clear hK K hkc
  refine held_take (v := ?v114) 9 rfl (by kernel_rfl) (by kernel_rfl) (by kernel_rfl) (fun _ _ _ h => h) (by rfl) ?y114 (by assumption) ?_
  case y114 => (intro w hSw; unfold HeldR at hSw; go_simp; (try with_reducible rfl); (try omega))
  simp only [List.setIfInBounds_toArray, List.set_cons_zero, List.set_cons_succ]
  have hkc := kid_cell HD.out hzN6 s k HK.out
  have hkz : w3.frozen? ⟨w.heap.size + 1, 20 + k, none⟩ = false := hzN6.frozen _
  have hzN := hzN6.set (20 + k) (.int .i64 (r1 : Int))
  rw [HK.out, nd_set_kid HD.out s r1, ← HK.out] at hzN
  have hne : ∀ k, X1 k → k ≠ w.heap.size + 1 := fun k hk e => hX1 (by rw [← e]; exact hk)
  have hT1 : TabG (w3.setCell ⟨w.heap.size + 1, 20 + k, none⟩ (.int .i64 (r1 : Int))) X1 g T1 gn1 cap1 vf1 := h6.keep (fun q hq => Below.heap_setCell _ _ _ q (fun e => hne q hq e)) (by simp)
  have hU1 : Upd w X (w3.setCell ⟨w.heap.size + 1, 20 + k, none⟩ (.int .i64 (r1 : Int))) X1 := by
    have hu := hu5.trans hu6
    refine ⟨hu.os, hu.tape, hu.output, by simpa using hu.size, fun q hq hx => (Below.heap_setCell _ _ _ q (fun e => ?_)).trans (hu.block q hq hx), hu.sub⟩
    simp only at e
    omega
  have hH7 : HeldR w.heap.size 32 p.row (w3.setCell ⟨w.heap.size + 1, 20 + k, none⟩ (.int .i64 (r1 : Int))) := Bx.setOther hH6 (by omega) _ _
  refine held_none 10 rfl (by kernel_rfl) (by rfl) (fun K hK => ?_)
  go_simp
  refine hK.out _ _ hH7 (fun _ => ?_)
  clear hK K hkc hkz
  refine wpAnyH_done (by kernel_rfl) ?_ _
  refine NoPanic.normal ?_
  clear hzN5 hzN6 h5 hu5 h6 hu6 hHeld hH6 hH7 hX0 hne HS HR HE H1
  generalize w3.setCell ⟨w.heap.size + 1, 20 + k, none⟩ (.int .i64 (r1 : Int)) = W at *
  obtain ⟨D, hD⟩ : ∃ D : Nd, D = d.setKid s r1 := ⟨_, rfl⟩
  have HDD : Hid (D.p.addr.length = 16) := by rw [hD, setKid_len]; exact HD
  rw [← hD] at hzN hfin
  clear hD
  have c19 : W.cell? ⟨w.heap.size + 1, 19, none⟩ = some (.bool D.held) := by rw [hzN.cell]; exact nd_held HDD.out
  have c20 : W.cell? ⟨w.heap.size + 1, 20, none⟩ = some (.int .i64 (D.k0 : Int)) := by rw [hzN.cell]; exact nd_k0 HDD.out
  have c21 : W.cell? ⟨w.heap.size + 1, 21, none⟩ = some (.int .i64 (D.k1 : Int)) := by rw [hzN.cell]; exact nd_k1 HDD.out
  have HZN := Lib.hid hzN
  have HT1 := Lib.hid hT1
  have HU1 := Lib.hid hU1
  have HX1 := Lib.hid hX1
  have HFIN := Lib.hid hfin
  have hnl : n < T1.nds.length := by
    unfold finR at hfin
    by_cases hh : n < T1.nds.length
    · exact hh
    · rw [if_neg hh] at hfin; cases hfin
  clear hzN hT1 hU1 hX1 hfin
  have keep : ∀ hkeep : D.held = true ∨ (D.k0 ≠ 0 ∧ D.k1 ≠ 0), r = n ∧ T' = { T1 with nds := T1.nds.set n D } := by
    intro hkeep
    have := HFIN.out
    unfold finR at this
    rw [if_pos hnl, if_pos hkeep] at this
    cases this
    exact ⟨rfl, rfl⟩
  have gone : ∀ hno : ¬ (D.held = true ∨ (D.k0 ≠ 0 ∧ D.k1 ≠ 0)), r = max D.k0 D.k1 ∧ T' = giveN T1 n := by
    intro hno
    have := HFIN.out
    unfold finR at this
    rw [if_pos hnl, if_neg hno] at this
    cases this
    exact ⟨rfl, rfl⟩
  have KEEP := Lib.hid keep
  have GONE := Lib.hid gone
  clear keep gone HFIN
  by_cases hh : D.held = true
  · rw [hh] at c19
    obtain ⟨rfl, rfl⟩ := KEEP.out (.inl hh)
    clear KEEP GONE
    go_wp2
    refine wp_region_noPanic ?_
    refine wp_region_held_drew (S := HeldT g (.slice (some ⟨gn1, 0, none⟩) T1.nds.length cap1) (w.heap.size + 1) 79 D.row) (by kernel_rfl) ⟨HT1.out.c4, HZN.out⟩ (fun hHeld => ?_)
    have h2 := HT1.out
    have hu2 := HU1.out
    have h3 : TabG W.drew X1 g T1 gn1 cap1 vf1 := ⟨h2.box, h2.nds, h2.free, h2.addr, h2.inG, h2.inN, h2.inF, h2.low⟩
    have hu3 : Upd w X W.drew X1 := ⟨hu2.os, hu2.tape, hu2.output, hu2.size, hu2.block, hu2.sub⟩
    have hcaps1 := h2.caps
    unfold maxLen at hcaps1
    have hgx : ¬ (w.heap.size + 1 = gn1) := fun e => HX1.out (by rw [e]; exact h3.inN)
    clear h2 hu2 c19 c20 c21 HT1 HU1 HZN
    generalize W.drew = W2 at *
    refine held_take (v := ?v188) 0 rfl (by kernel_rfl) (by kernel_rfl) (by kernel_rfl) (fun _ _ _ h => h) (by rfl) ?y188 (by assumption) ?_
    case y188 => (intro w hSw; unfold HeldT at hSw; go_simp; (try with_reducible rfl); (try omega))
    simp only [List.setIfInBounds_toArray, List.set_cons_zero, List.set_cons_succ]
    refine held_take (v := ?v191) 1 rfl (by kernel_rfl) (by kernel_rfl) (by kernel_rfl) (fun _ _ _ h => h) (by rfl) ?y191 (by assumption) ?_
    case y191 => (intro w hSw; unfold HeldT at hSw; go_simp; (try with_reducible rfl); (try omega))
    simp only [List.setIfInBounds_toArray, List.set_cons_zero, List.set_cons_succ]
    refine held_take (v := ?v194) 2 rfl (by kernel_rfl) (by kernel_rfl) (by kernel_rfl) (fun _ _ _ h => h) (by rfl) ?y194 (by assumption) ?_
    case y194 => (intro w hSw; unfold HeldT at hSw; go_simp; (try with_reducible rfl); (try omega))
    simp only [List.setIfInBounds_toArray, List.set_cons_zero, List.set_cons_succ]
    refine held_take (v := ?v197) 3 rfl (by kernel_rfl) (by kernel_rfl) (by kernel_rfl) (fun _ _ _ h => h) (by rfl) ?y197 (by assumption) ?_
    case y197 => (intro w hSw; unfold HeldT at hSw; go_simp; (try with_reducible rfl); (try omega))
    simp only [List.setIfInBounds_toArray, List.set_cons_zero, List.set_cons_succ]
    refine held_take (v := ?v200) 4 rfl (by kernel_rfl) (by kernel_rfl) (by kernel_rfl) (fun _ _ _ h => h) (by rfl) ?y200 (by assumption) ?_
    case y200 => (intro w hSw; unfold HeldT at hSw; go_simp; (try with_reducible rfl); (try omega))
    simp only [List.setIfInBounds_toArray, List.set_cons_zero, List.set_cons_succ]
    refine held_take (v := D.val) 5 rfl (by kernel_rfl) (by kernel_rfl) (by kernel_rfl) (fun _ _ _ h => h) (by rfl) (fun W hSw => exec_load_any _ (.tmp 7) rfl (w.heap.size + 1) 0 D.row _ rfl (rangeAll hSw.2) Try.underlying79 rfl (nd_infoC HDD.out)) (by assumption) ?_
    simp only [List.setIfInBounds_toArray, List.set_cons_zero, List.set_cons_succ]
    refine held_take (v := ?v205) 6 rfl (by kernel_rfl) (by kernel_rfl) (by kernel_rfl) (fun _ _ _ h => h) (by rfl) ?y205 (by assumption) ?_
    case y205 => (intro w hSw; unfold HeldT at hSw; go_simp; (try with_reducible rfl); (try omega))
    simp only [List.setIfInBounds_toArray, List.set_cons_zero, List.set_cons_succ]
    refine held_none 7 rfl (by kernel_rfl) (by rfl) (fun K hK => ?_)
    refine wp_store_mid 79 (.tmp 57) (.tmp 56) rfl gn1 (r * 22) D.row.toArray rfl rfl ?_ (by simpa using nd_infoC HDD.out) (all_oneCell_toArray (nd_one D)) ?_
    · obtain ⟨d0, hd0⟩ : ∃ d0, T1.nds[r]? = some d0 := ⟨_, List.getElem?_eq_getElem hnl⟩
      exact h3.there r d0 hd0 _ (by simp [nd_len HDD.out])
    · have h4 := h3.setNode r hnl D HDD.out
      have hu4 := hu3.trans (Upd.setCells gn1 h3.inN D.row W2 (r * 22))
      refine hK.out _ _ ⟨h4.c4.trans (by simp), hHeld.2.upd (Upd.setCells (X := fun k => k = gn1) gn1 rfl D.row W2 (r * 22)) hgx⟩ (fun _ => ?_)
      clear hK K
      refine wpAnyH_done (by kernel_rfl) ?_ _
      refine NoPanic.normal ?_
      go_wp2
      go_ret
      exact ⟨rfl, X1, ⟨gn1, cap1, _, h4⟩, hu4⟩
  · have hh : D.held = false := by simpa using hh
    rw [hh] at c19
    by_cases k0 : D.k0 = 0
    · obtain ⟨rfl, rfl⟩ := GONE.out (by rw [hh]; simp [k0])
      rw [k0] at c20
      clear KEEP GONE
      have HG := Lib.hid (fun W X (h : TabM W X g T1) => give_any T1 n W X g h hnl hfl)
      go_wp2_with (go_at_call 38; refine (HG.out _ _ ⟨_, _, _, HT1.out⟩).mono ?_; rintro e w5 ⟨⟨v5, rfl⟩, X5, h5, hu5⟩; refine Hid.out ?_)
      refine Lib.hid ?_
      have hz5 := HZN.out.upd hu5 HX1.out
      have c20 : w5.cell? ⟨w.heap.size + 1, 20, none⟩ = some (.int .i64 (D.k0 : Int)) := by rw [hz5.cell]; exact nd_k0 HDD.out
      have c21 : w5.cell? ⟨w.heap.size + 1, 21, none⟩ = some (.int .i64 (D.k1 : Int)) := by rw [hz5.cell]; exact nd_k1 HDD.out
      have HR5 := Lib.hid (⟨h5, HU1.out.trans hu5⟩ : _ ∧ _)
      clear h5 hu5 hz5
      go_wp2
      all_goals (go_ret; refine ⟨?_, X5, HR5.out.1, HR5.out.2⟩; refine congrArg Ending.returned (congrArg (Value.int .i64) (?_ : (_ : Int) = _)); omega)
    · by_cases k1 : D.k1 = 0
      · obtain ⟨rfl, rfl⟩ := GONE.out (by rw [hh]; simp [k1])
        rw [k1] at c21
        clear KEEP GONE
        have HG := Lib.hid (fun W X (h : TabM W X g T1) => give_any T1 n W X g h hnl hfl)
        go_wp2_with (go_at_call 38; refine (HG.out _ _ ⟨_, _, _, HT1.out⟩).mono ?_; rintro e w5 ⟨⟨v5, rfl⟩, X5, h5, hu5⟩; refine Hid.out ?_)
        refine Lib.hid ?_
        have hz5 := HZN.out.upd hu5 HX1.out
        have c20 : w5.cell? ⟨w.heap.size + 1, 20, none⟩ = some (.int .i64 (D.k0 : Int)) := by rw [hz5.cell]; exact nd_k0 HDD.out
        have c21 : w5.cell? ⟨w.heap.size + 1, 21, none⟩ = some (.int .i64 (D.k1 : Int)) := by rw [hz5.cell]; exact nd_k1 HDD.out
        have HR5 := Lib.hid (⟨h5, HU1.out.trans hu5⟩ : _ ∧ _)
        clear h5 hu5 hz5
        go_wp2
        all_goals (go_ret; refine ⟨?_, X5, HR5.out.1, HR5.out.2⟩; refine congrArg Ending.returned (congrArg (Value.int .i64) (?_ : (_ : Int) = _)); omega)
      · obtain ⟨rfl, rfl⟩ := KEEP.out (.inr ⟨k0, k1⟩)
        clear KEEP GONE
        have i0 : (D.k0 : Int) ≠ 0 := by omega
        have i1 : (D.k1 : Int) ≠ 0 := by omega
        have j0 : ((D.k0 : Int) == 0) = false := by simpa using i0
        have j1 : ((D.k1 : Int) == 0) = false := by simpa using i1
        have l0 : ((D.k0 : Int) != 0) = true := by simpa using i0
        have l1 : ((D.k1 : Int) != 0) = true := by simpa using i1
        go_wp2
        refine wp_region_noPanic ?_
        refine wp_region_held_drew (S := HeldT g (.slice (some ⟨gn1, 0, none⟩) T1.nds.length cap1) (w.heap.size + 1) 79 D.row) (by kernel_rfl) ⟨HT1.out.c4, HZN.out⟩ (fun hHeld => ?_)
        have h2 := HT1.out
        have hu2 := HU1.out
        have h3 : TabG W.drew X1 g T1 gn1 cap1 vf1 := ⟨h2.box, h2.nds, h2.free, h2.addr, h2.inG, h2.inN, h2.inF, h2.low⟩
        have hu3 : Upd w X W.drew X1 := ⟨hu2.os, hu2.tape, hu2.output, hu2.size, hu2.block, hu2.sub⟩
        have hcaps1 := h2.caps
        unfold maxLen at hcaps1
        have hgx : ¬ (w.heap.size + 1 = gn1) := fun e => HX1.out (by rw [e]; exact h3.inN)
        clear h2 hu2 c19 c20 c21 HT1 HU1 HZN
        generalize W.drew = W2 at *
        refine held_take (v := ?v271) 0 rfl (by kernel_rfl) (by kernel_rfl) (by kernel_rfl) (fun _ _ _ h => h) (by rfl) ?y271 (by assumption) ?_
        case y271 => (intro w hSw; unfold HeldT at hSw; go_simp; (try with_reducible rfl); (try omega))
        simp only [List.setIfInBounds_toArray, List.set_cons_zero, List.set_cons_succ]
        refine held_take (v := ?v274) 1 rfl (by kernel_rfl) (by kernel_rfl) (by kernel_rfl) (fun _ _ _ h => h) (by rfl) ?y274 (by assumption) ?_
        case y274 => (intro w hSw; unfold HeldT at hSw; go_simp; (try with_reducible rfl); (try omega))
        simp only [List.setIfInBounds_toArray, List.set_cons_zero, List.set_cons_succ]
        refine held_take (v := ?v277) 2 rfl (by kernel_rfl) (by kernel_rfl) (by kernel_rfl) (fun _ _ _ h => h) (by rfl) ?y277 (by assumption) ?_
        case y277 => (intro w hSw; unfold HeldT at hSw; go_simp; (try with_reducible rfl); (try omega))
        simp only [List.setIfInBounds_toArray, List.set_cons_zero, List.set_cons_succ]
        refine held_take (v := ?v280) 3 rfl (by kernel_rfl) (by kernel_rfl) (by kernel_rfl) (fun _ _ _ h => h) (by rfl) ?y280 (by assumption) ?_
        case y280 => (intro w hSw; unfold HeldT at hSw; go_simp; (try with_reducible rfl); (try omega))
        simp only [List.setIfInBounds_toArray, List.set_cons_zero, List.set_cons_succ]
        refine held_take (v := ?v283) 4 rfl (by kernel_rfl) (by kernel_rfl) (by kernel_rfl) (fun _ _ _ h => h) (by rfl) ?y283 (by assumption) ?_
        case y283 => (intro w hSw; unfold HeldT at hSw; go_simp; (try with_reducible rfl); (try omega))
        simp only [List.setIfInBounds_toArray, List.set_cons_zero, List.set_cons_succ]
        refine held_take (v := D.val) 5 rfl (by kernel_rfl) (by kernel_rfl) (by kernel_rfl) (fun _ _ _ h => h) (by rfl) (fun W hSw => exec_load_any _ (.tmp 7) rfl (w.heap.size + 1) 0 D.row _ rfl (rangeAll hSw.2) Try.underlying79 rfl (nd_infoC HDD.out)) (by assumption) ?_
        simp only [List.setIfInBounds_toArray, List.set_cons_zero, List.set_cons_succ]
        refine held_take (v := ?v288) 6 rfl (by kernel_rfl) (by kernel_rfl) (by kernel_rfl) (fun _ _ _ h => h) (by rfl) ?y288 (by assumption) ?_
        case y288 => (intro w hSw; unfold HeldT at hSw; go_simp; (try with_reducible rfl); (try omega))
        simp only [List.setIfInBounds_toArray, List.set_cons_zero, List.set_cons_succ]
        refine held_none 7 rfl (by kernel_rfl) (by rfl) (fun K hK => ?_)
        refine wp_store_mid 79 (.tmp 57) (.tmp 56) rfl gn1 (r * 22) D.row.toArray rfl rfl ?_ (by simpa using nd_infoC HDD.out) (all_oneCell_toArray (nd_one D)) ?_
        · obtain ⟨d0, hd0⟩ : ∃ d0, T1.nds[r]? = some d0 := ⟨_, List.getElem?_eq_getElem hnl⟩
          exact h3.there r d0 hd0 _ (by simp [nd_len HDD.out])
        · have h4 := h3.setNode r hnl D HDD.out
          have hu4 := hu3.trans (Upd.setCells gn1 h3.inN D.row W2 (r * 22))
          refine hK.out _ _ ⟨h4.c4.trans (by simp), hHeld.2.upd (Upd.setCells (X := fun k => k = gn1) gn1 rfl D.row W2 (r * 22)) hgx⟩ (fun _ => ?_)
          clear hK K
          refine wpAnyH_done (by kernel_rfl) ?_ _
          refine NoPanic.normal ?_
          go_wp2
          go_ret
          exact ⟨rfl, X1, ⟨gn1, cap1, _, h4⟩, hu4⟩
theorem finR_len {T T' : Tb} {n r : Nat} {d : Nd} (h : finR T n d = some (r, T')) : T'.nds.length = T.nds.length ∧ T'.free.length ≤ T.free.length + 1 := by
  unfold finR at h
  split at h
  · split at h
    · cases h; simp
    · cases h; simp [giveN]
  · cases h
theorem remN_len : ∀ (f : Nat) (T T' : Tb) (n r : Nat) (p : Pfx), remN f T n p = some (r, T') → T'.nds.length = T.nds.length ∧ T'.free.length ≤ T.free.length + f
  | 0, _, _, _, _, _, h => by cases h
  | f + 1, T, T', n, r, p, h => by
    unfold remN at h
    split at h
    · cases h
    · split at h
      · have := finR_len h; omega
      · split at h
        · cases h
        · rename_i h1
          have := remN_len f _ _ _ _ _ h1
          have := finR_len h
          omega
/-- remove, as it reckons. -/
theorem rem_any : ∀ (f : Nat) (T T' : Tb) (n r : Nat) (p : Pfx) (w : World) (X : Nat → Prop) (g : Nat), TabM w X g T → p.addr.length = 16 → remN f T n p = some (r, T') → T.free.length + f ≤ 1000000 →
    Calls Try.prog 22 #[.pointer (some ⟨g, 0, none⟩), .int .i64 (n : Int), p.val] w (LaidT w X g T' r)
  | 0, _, _, _, _, _, _, _, _, _, _, hT, _ => by cases hT
  | f + 1, T, T', n, r, p, w, X, g, h, hp, hT, hl => by
    unfold remN at hT
    split at hT
    · cases hT
    · rename_i d hd
      split at hT
      · rename_i he
        exact rem_eq T T' n r d p w X g h hp hd he hT (by omega)
      · rename_i he
        have he : eqP d.p p = false := by simpa using he
        split at hT
        · cases hT
        · rename_i r1 T1 hr
          have := remN_len f _ _ _ _ _ hr
          exact rem_rec T T1 T' n r1 r d p w X g h hp hd he (fun W Y hW => rem_any f T T1 _ r1 p W Y g hW hp hr (by omega)) hT (by omega)
end Go.Proofs.Ytecefdocemkliaa

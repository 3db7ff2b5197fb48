/- Show, parseAddress and Parse of package prefix. -/
import Derived.Test.YtlbgmpjeckigjaaDoorPre5
import Derived.Test.YtlbgmpjeckigjaaDoorM8b
import Derived.Test.YtlbgmpjeckigjaaDoorDot3
namespace Go.Proofs.YtlbgmpjeckigjaaDoor
open Go Go.RowKit

/-- What Go's library holds: two cells, and the powers of ten. -/
structure Env8 (w : World) : Prop where
  env : Env w
  tab : Lib.TabIs Tryd.prog w "internal/strconv.uint64pow10" .u64 Lib.pow10Tab
theorem Env8.up {w w' : World} (h : Env8 w) (hb : Below w.heap.size w w') : Env8 w' := ⟨h.env.up hb, tab_below h.tab hb⟩
theorem Env8.al {w : World} (h : Env8 w) (o : Obj) : Env8 (w.alloc o) := h.up ((Below.refl _ _).alloc (Nat.le_refl _) _)
theorem wpList_load_arr4R {ops : Array Oper} {rest : List Oper} {o : Oper} {a : Act} {w : World} {Q : Exit → Act → World → Prop} (hgd : o.guard = none) (x : Operand) (ho : o.op = .load 45 x) (b k : Nat) (l : List UInt8) (hl : l.length = 4) (hx : a.eval x = .pointer (some ⟨b, k, none⟩)) (hc : w.rangeAt b k (byteVals l))
    (hR : wpList Tryd.prog ops Q rest (a.put o.dst (arrV l)) w) : wpList Tryd.prog ops Q (o :: rest) a w :=
  wpList_load_mid hgd _ x ho b k hx (byteVals l) _ hc Tryd.underlying45 rfl (by rw [byteVals_length, hl]; exact arr4.info) hR
theorem range_take {W : World} {b k : Nat} {l : List UInt8} (h : W.rangeAt b k (byteVals l)) (n : Nat) : W.rangeAt b k (byteVals (l.take n)) := by
  intro j v hv
  refine h j v ?_
  unfold byteVals at *
  rw [List.getElem?_map, List.getElem?_take] at hv
  rw [List.getElem?_map]
  by_cases hj : j < n
  · rw [if_pos hj] at hv; exact hv
  · rw [if_neg hj] at hv; cases hv
theorem cat3 (D I : List UInt8) : (⟨D.toArray⟩ : ByteArray) ++ ⟨#[47]⟩ ++ ⟨I.toArray⟩ = ⟨(D ++ 47 :: I).toArray⟩ := by
  rw [show (⟨#[47]⟩ : ByteArray) = ⟨[47].toArray⟩ from rfl, str_append, str_append]
  simp
/-- A box with a prefix, and the library's cells. -/
def ShowZ (w : World) (p : Pfx) (W : World) : Prop := PfxT W w.heap.size p ∧ Env8 W ∧ Below w.heap.size w W
theorem ShowZ.up {w : World} {p : Pfx} {W W' : World} (h : ShowZ w p W) (hb : Below W.heap.size W W') : ShowZ w p W' := ⟨h.1.up hb, h.2.1.up hb, below_up h.2.2 hb h.2.2.size⟩
set_option maxRecDepth 100000 in
set_option maxHeartbeats 4000000 in
theorem pshow_any (p : Pfx) (w : World) (f : p.addr.length = 16) (h0 : -9223372036854775808 ≤ p.len) (h1 : p.len ≤ 9223372036854775807) (hE : Env8 w) :
    Calls Tryd.prog 12 #[p.val] w fun r w' => r = .returned (.string ⟨(showP p).toArray⟩) ∧ Below w.heap.size w w' := by
  have z : ShowZ w p (w.alloc (.cells p.cells 24)) := ⟨pfxT_new w p, hE.al _, (Below.refl _ _).alloc (Nat.le_refl _) _⟩
  have Z := Lib.hid z
  have HC := Lib.hid (fun W h => show_any p.addr W h f)
  have HD := Lib.hid (fun W h => show4_any (p.addr.take 4) W (by rw [List.length_take]; omega) h)
  have HN := Lib.hid (fun W h => digits_any p.len W h0 h1 h)
  have hil := Lib.itoa_length_le p.len h0 h1
  have hsa := (showA_len p.addr).2
  have hsd := showD_len (p.addr.take 4)
  rw [show (p.addr.take 4).length = 4 by rw [List.length_take]; omega] at hsd
  have H4 := Lib.hid (show (p.addr.take 4).length = 4 by rw [List.length_take]; omega)
  have HF := Lib.hid f
  rw [show p.val = .agg p.cells from rfl]
  have hsh : showP p = headT p ++ 47 :: Lib.itoa p.len := rfl
  have hh : headT p = if p.six then showA p.addr else showD (p.addr.take 4) := rfl
  rw [hsh, hh]
  have c1 := Z.out.1.six
  clear z hE f h0 h1 hsh hh
  generalize showA p.addr = A at *
  generalize showD (p.addr.take 4) = D at *
  generalize hs : p.six = s at *
  generalize hn : p.len = n at *
  generalize Lib.itoa n = I at *
  have hAr : ∀ (W : World) (x : Option Addr) (c : Nat), (Instr.arrayAt 45 (.slice x 4 c)).run Tryd.prog W = .ok (.pointer x) W := fun W x c => run_arrayAt W _ 5 4 x 4 c Tryd.underlying45 (by omega)
  go_enter Tryd.func12, Tryd.ntmps12
  go_wp2_with (first | (refine wpList_load_arrR rfl (.tmp 4) rfl w.heap.size 1 p.addr HF.out rfl Z.out.1.range ?_) | (go_at_call 29; refine (HC.out _ Z.out.2.1.env).mono ?_; rintro e w1 ⟨rfl, b1⟩; refine Hid.out ?_))
  refine Lib.hid ?_
  have Z1 := Lib.hid (Z.out.up b1)
  have c1 := Z1.out.1.six
  have c2 := Z1.out.1.len HF.out
  rw [hs] at c1
  rw [hn] at c2
  clear b1 Z HC
  cases s
  · go_wp2_with (first | (refine wpList_load_arr4R rfl (.tmp 12) rfl w.heap.size 1 (p.addr.take 4) H4.out rfl (range_take Z1.out.1.range 4) ?_) | (go_at_call 30; refine (HD.out _ Z1.out.2.1.tab).mono ?_; rintro e w2 ⟨rfl, b2⟩; refine Hid.out ?_))
    refine Lib.hid ?_
    have Z2 := Lib.hid (Z1.out.up b2)
    have c2 := Z2.out.1.len HF.out
    rw [hn] at c2
    clear b2 Z1 HD
    go_wp2_with (go_at_call 31; refine (HN.out _ Z2.out.2.1.tab).mono ?_; rintro e w3 ⟨rfl, b3⟩)
    go_ret
    exact ⟨congrArg (fun x => Ending.returned (.string x)) (cat3 D I), (Z2.out.up b3).2.2⟩
  · go_wp2_with (go_at_call 31; refine (HN.out _ Z1.out.2.1.tab).mono ?_; rintro e w3 ⟨rfl, b3⟩)
    go_ret
    exact ⟨congrArg (fun x => Ending.returned (.string x)) (cat3 A I), (Z1.out.up b3).2.2⟩
/-- The box of a result, and the library's cells. -/
theorem splice_four (l : List UInt8) (h : l.length = 4) : splice zeroP.row 1 (byteVals l) = Pfx.row ⟨false, l ++ List.replicate 12 0, 0⟩ := by
  match l, h with
  | [a, b, c, d], _ => rfl
def pfxA (t : List UInt8) : Pfx := ⟨(colV t).isSome, adrT t, 0⟩
theorem size_two (w : World) (o u : Obj) : ((w.alloc o).alloc u).heap.size = w.heap.size + 1 + 1 := by rw [World.size_alloc, World.size_alloc]
/-- A fresh box for the address, and one for the prefix. -/
def AdrZ (w w1 : World) (l : List UInt8) (W : World) : Prop := ShowZ w zeroP W ∧ ArrT 45 W w1.heap.size l ∧ PfxT W (w1.heap.size + 1) zeroP ∧ w.heap.size < w1.heap.size
theorem adrZ_new {w w1 : World} (l : List UInt8) (h : ShowZ w zeroP w1) : AdrZ w w1 l ((w1.alloc (.cells (byteVals l).toArray 45)).alloc (.cells zeroP.cells 24)) := by
  have b : Below w1.heap.size w1 ((w1.alloc (.cells (byteVals l).toArray 45)).alloc (.cells zeroP.cells 24)) := ((Below.refl _ _).alloc (Nat.le_refl _) _).alloc (by simp) _
  refine ⟨h.up b, (arrT_new w1 l).allocO _, ?_, h.1.lt⟩
  have := pfxT_new (w1.alloc (.cells (byteVals l).toArray 45)) zeroP
  rw [World.size_alloc] at this
  exact this
set_option maxRecDepth 100000 in
set_option maxHeartbeats 8000000 in
theorem paddr_any (s : ByteArray) (w : World) (hs : s.size ≤ 1000000) (hE : Env8 w) :
    Calls Tryd.prog 41 #[.string s] w fun r w' => r = .returned (.tuple #[(pfxA s.data.toList).val, .bool (dotB s.data.toList || (colV s.data.toList).isSome)]) ∧ Below w.heap.size w w' := by
  have z : ShowZ w zeroP (w.alloc (.cells zeroP.cells 24)) := ⟨pfxT_new w zeroP, hE.al _, (Below.refl _ _).alloc (Nat.le_refl _) _⟩
  have Z := Lib.hid z
  rw [← zeroP_cells] at Z
  have HD := Lib.hid (fun W => dparse_any s W hs)
  have HC := Lib.hid (fun W h => parse_any s s.data.toList rfl W h hs)
  have hdl := dotL_length s.data.toList
  have hcl := colA_length s.data.toList
  cases hd : dotB s.data.toList
  · have e : pfxA s.data.toList = ⟨(colV s.data.toList).isSome, colA s.data.toList, 0⟩ := by unfold pfxA adrT; rw [hd]; rfl
    rw [e, Bool.false_or]
    have HCL := Lib.hid hcl
    have HDL := Lib.hid hdl
    rw [hd] at HD
    clear z hE hs hdl hcl hd e
    generalize dotL s.data.toList = d at *
    generalize colA s.data.toList = c at *
    generalize (colV s.data.toList).isSome = b at *
    go_enter Tryd.func41, Tryd.ntmps41
    go_wp2_with (first | (go_at_call 57; refine (HD.out _).mono ?_; rintro e w1 ⟨rfl, b1⟩; refine Hid.out ?_))
    refine Lib.hid ?_
    have Z1 := Lib.hid (Z.out.up b1)
    have Z2 := Lib.hid (Z1.out.up ((Below.refl w1.heap.size w1).alloc (Nat.le_refl _) (.cells (byteVals d).toArray 45)))
    clear Z b1
    go_wp2_with (first | (refine wpList_store_newT rfl (.tmp 4) (.tmp 12) rfl d (by rw [HDL.out]; exact arr4) _ rfl rfl (by rw [HDL.out]; rfl) ?_) | (go_at_call 58; refine (HC.out _ Z2.out.2.1.env).mono ?_; rintro e w2 ⟨rfl, b2⟩; refine Hid.out ?_))
    refine Lib.hid ?_
    have Z3 := Lib.hid (Z2.out.up b2)
    have Z4 : Hid (ShowZ w zeroP (w2.alloc (.cells (byteVals c).toArray 22)) ∧ ArrT 22 (w2.alloc (.cells (byteVals c).toArray 22)) w2.heap.size c) := ⟨Z3.out.up ((Below.refl w2.heap.size w2).alloc (Nat.le_refl _) _), arrT_new w2 c⟩
    clear Z1 Z2 Z3 b2
    go_wp2_with (first | (refine wpList_store_newT rfl (.tmp 7) (.tmp 23) rfl c (by rw [HCL.out]; exact arr16P) _ rfl rfl (by rw [HCL.out]; rfl) ?_) | (refine wpList_load_arrT rfl (.tmp 7) rfl w2.heap.size c (by rw [HCL.out]; exact arr16P) rfl Z4.out.2 ?_) | (refine wpList_build_pfx2 rfl (.tmp 25) (.tmp 26) rfl b c HCL.out rfl rfl ?_) | (refine wpList_store_pfx rfl (.tmp 2) (.tmp 27) rfl w.heap.size ⟨b, c, 0⟩ HCL.out _ rfl rfl Z4.out.1.1 rfl ?_))
    exact bodyPost_ret (results_pfx2 Tryd.results41 _ _ w.heap.size ⟨b, c, 0⟩ HCL.out rfl (pfxT_setRow Z4.out.1.1 _)) rfl ⟨rfl, below_setRow Z4.out.1.2.2 (Nat.le_refl _) _⟩
  · have e : pfxA s.data.toList = ⟨false, dotL s.data.toList ++ List.replicate 12 0, 0⟩ := by unfold pfxA adrT; rw [hd, dot_nocol hd]; rfl
    rw [e, Bool.true_or]
    have HDL := Lib.hid hdl
    have HDL2 : Hid ((dotL s.data.toList ++ List.replicate 12 0).length = 16) := by
      show (dotL s.data.toList ++ List.replicate 12 0).length = 16
      rw [List.length_append, hdl, List.length_replicate]
    rw [hd] at HD
    have HSP := Lib.hid (splice_four (dotL s.data.toList) hdl)
    clear z hE hs hdl hcl hd e HC
    generalize dotL s.data.toList = d at *
    go_enter Tryd.func41, Tryd.ntmps41
    go_wp2_with (first | (go_at_call 57; refine (HD.out _).mono ?_; rintro e w1 ⟨rfl, b1⟩; refine Hid.out ?_))
    refine Lib.hid ?_
    have Z1 := Lib.hid (adrZ_new d (Z.out.up b1))
    rw [← zeroP_cells] at Z1
    clear Z b1
    go_wp2_with (first | (refine wpList_store_newT rfl (.tmp 4) (.tmp 12) rfl d (by rw [HDL.out]; exact arr4) _ rfl rfl (by rw [HDL.out]; rfl) ?_))
    refine wp_region_noPanic ?_
    refine wp_region_held_drew (S := fun _ => True) (by kernel_rfl) trivial (fun hHeld => ?_)
    refine held_take (v := ?v147) 0 rfl (by kernel_rfl) (by kernel_rfl) (by kernel_rfl) (fun _ _ _ h => h) (by rfl) ?y147 (by assumption) ?_
    case y147 => (intro w hSw; (try dsimp only at hSw); go_simp; (try with_reducible rfl); (try omega))
    simp only [List.setIfInBounds_toArray, List.set_cons_zero, List.set_cons_succ]
    refine held_take (v := ?v150) 1 rfl (by kernel_rfl) (by kernel_rfl) (by kernel_rfl) (fun _ _ _ h => h) (by rfl) ?y150 (by assumption) ?_
    case y150 => (intro w hSw; (try dsimp only at hSw); go_simp; (try with_reducible rfl); (try omega))
    simp only [List.setIfInBounds_toArray, List.set_cons_zero, List.set_cons_succ]
    refine held_take (v := ?v153) 2 rfl (by kernel_rfl) (by kernel_rfl) (by kernel_rfl) (fun _ _ _ h => h) (by rfl) ?y153 (by assumption) ?_
    case y153 => (intro w hSw; (try dsimp only at hSw); go_simp; (try with_reducible rfl); (try omega))
    simp only [List.setIfInBounds_toArray, List.set_cons_zero, List.set_cons_succ]
    refine held_one 3 rfl (by kernel_rfl) (by rfl) (fun K hK => ?_)
    refine wp_copy_set (.tmp 16) (.tmp 17) 46 46 rfl 5 Tryd.underlying46 (by kernel_rfl) _ _ _ _ _ _ rfl rfl (w1.heap.size + 1) 1 zeroP.row 24 Z1.out.2.2.1 (byteVals d) (by rw [byteVals_length, HDL.out]; rfl) (fun _ => ⟨rfl, ⟨w1.heap.size, 0, none⟩, rfl, fun j v hj => by
      have e : (⟨w1.heap.size, 0, none⟩ : Addr).add j = ⟨w1.heap.size, 0 + j, none⟩ := by unfold Addr.add; split <;> simp_all
      rw [e]
      exact Z1.out.2.1.range j v hj⟩) (by rw [byteVals_length, HDL.out]; decide) (byteVals_oneCell d) ?_
    rw [HSP.out]
    refine hK.out _ _ trivial (fun _ => ?_)
    clear hK K
    have Z2 : Hid (PfxT ((((w1.alloc (.cells (byteVals d).toArray 45)).alloc (.cells #[.bool false, .int .u8 0, .int .u8 0, .int .u8 0, .int .u8 0, .int .u8 0, .int .u8 0, .int .u8 0, .int .u8 0, .int .u8 0, .int .u8 0, .int .u8 0, .int .u8 0, .int .u8 0, .int .u8 0, .int .u8 0, .int .u8 0, .int .i64 0] 24)).drew).setRow (w1.heap.size + 1) (Pfx.cells ⟨false, d ++ List.replicate 12 0, 0⟩)) w.heap.size zeroP ∧ PfxT ((((w1.alloc (.cells (byteVals d).toArray 45)).alloc (.cells #[.bool false, .int .u8 0, .int .u8 0, .int .u8 0, .int .u8 0, .int .u8 0, .int .u8 0, .int .u8 0, .int .u8 0, .int .u8 0, .int .u8 0, .int .u8 0, .int .u8 0, .int .u8 0, .int .u8 0, .int .u8 0, .int .u8 0, .int .i64 0] 24)).drew).setRow (w1.heap.size + 1) (Pfx.cells ⟨false, d ++ List.replicate 12 0, 0⟩)) (w1.heap.size + 1) ⟨false, d ++ List.replicate 12 0, 0⟩ ∧ Below w.heap.size w ((((w1.alloc (.cells (byteVals d).toArray 45)).alloc (.cells #[.bool false, .int .u8 0, .int .u8 0, .int .u8 0, .int .u8 0, .int .u8 0, .int .u8 0, .int .u8 0, .int .u8 0, .int .u8 0, .int .u8 0, .int .u8 0, .int .u8 0, .int .u8 0, .int .u8 0, .int .u8 0, .int .u8 0, .int .i64 0] 24)).drew).setRow (w1.heap.size + 1) (Pfx.cells ⟨false, d ++ List.replicate 12 0, 0⟩))) := by
      have h := Z1.out
      have hlt := h.2.2.2
      have h1 : PfxT (((w1.alloc (.cells (byteVals d).toArray 45)).alloc (.cells #[.bool false, .int .u8 0, .int .u8 0, .int .u8 0, .int .u8 0, .int .u8 0, .int .u8 0, .int .u8 0, .int .u8 0, .int .u8 0, .int .u8 0, .int .u8 0, .int .u8 0, .int .u8 0, .int .u8 0, .int .u8 0, .int .u8 0, .int .i64 0] 24)).drew) w.heap.size zeroP := h.1.1
      have h2 : PfxT (((w1.alloc (.cells (byteVals d).toArray 45)).alloc (.cells #[.bool false, .int .u8 0, .int .u8 0, .int .u8 0, .int .u8 0, .int .u8 0, .int .u8 0, .int .u8 0, .int .u8 0, .int .u8 0, .int .u8 0, .int .u8 0, .int .u8 0, .int .u8 0, .int .u8 0, .int .u8 0, .int .u8 0, .int .i64 0] 24)).drew) (w1.heap.size + 1) zeroP := h.2.2.1
      exact ⟨h1.rowOther (by omega) _, pfxT_setRow h2 _, below_setRow h.1.2.2.drew (by omega) _⟩
    rw [show (Pfx.row ⟨false, d ++ List.replicate 12 0, 0⟩).toArray = Pfx.cells ⟨false, d ++ List.replicate 12 0, 0⟩ from rfl]
    generalize (((w1.alloc (.cells (byteVals d).toArray 45)).alloc (.cells #[.bool false, .int .u8 0, .int .u8 0, .int .u8 0, .int .u8 0, .int .u8 0, .int .u8 0, .int .u8 0, .int .u8 0, .int .u8 0, .int .u8 0, .int .u8 0, .int .u8 0, .int .u8 0, .int .u8 0, .int .u8 0, .int .u8 0, .int .i64 0] 24)).drew).setRow (w1.heap.size + 1) (Pfx.cells ⟨false, d ++ List.replicate 12 0, 0⟩) = Y at *
    clear Z1 HSP HD
    generalize hq : (⟨false, d ++ List.replicate 12 0, 0⟩ : Pfx) = q at *
    have HQ := Lib.hid hq
    have HQL : Hid (q.addr.length = 16) := by rw [← hq]; exact HDL2.out
    clear hq
    refine wpAnyH_done (by kernel_rfl) ?_ _
    refine NoPanic.normal ?_
    go_wp2_with (first | (refine wpList_load_pfx rfl (.tmp 6) rfl (w1.heap.size + 1) q HQL.out rfl Z2.out.2.1 ?_) | (refine wpList_store_pfx rfl (.tmp 2) (.tmp 19) rfl w.heap.size q HQL.out _ rfl rfl Z2.out.1 rfl ?_))
    exact bodyPost_ret (results_pfx2 Tryd.results41 _ _ w.heap.size q HQL.out rfl (pfxT_setRow Z2.out.1 _)) rfl ⟨by rw [← HQ.out]; rfl, below_setRow Z2.out.2.2 (Nat.le_refl _) _⟩
/-- The box of a result, and one of a prefix. -/
def ParZ (w : World) (g : Nat) (p : Pfx) (W : World) : Prop := PfxT W w.heap.size zeroP ∧ PfxT W g p ∧ Env8 W ∧ Below w.heap.size w W ∧ w.heap.size < g
theorem ParZ.up {w : World} {g : Nat} {p : Pfx} {W W' : World} (h : ParZ w g p W) (hb : Below W.heap.size W W') : ParZ w g p W' := ⟨h.1.up hb, h.2.1.up hb, h.2.2.1.up hb, below_up h.2.2.2.1 hb h.2.2.2.1.size, h.2.2.2.2⟩
theorem parZ_new {w W : World} (p : Pfx) (h : ShowZ w zeroP W) : ParZ w W.heap.size p (W.alloc (.cells p.cells 24)) := by
  have h2 := h.up ((Below.refl W.heap.size W).alloc (Nat.le_refl _) (.cells p.cells 24))
  exact ⟨h2.1, pfxT_new W p, h2.2.1, h2.2.2, h.1.lt⟩
def ParY (w : World) (g : Nat) (p : Pfx) (W : World) : Prop := PfxT W w.heap.size zeroP ∧ PfxT W g p ∧ Below w.heap.size w W
theorem ParY.up {w : World} {g : Nat} {p : Pfx} {W W' : World} (h : ParY w g p W) (hb : Below W.heap.size W W') : ParY w g p W' := ⟨h.1.up hb, h.2.1.up hb, below_up h.2.2 hb h.2.2.size⟩
theorem parY_len {w : World} {g : Nat} {p : Pfx} {W : World} (h : ParZ w g p W) (f : p.addr.length = 16) (n : Int) : ParY w g ⟨p.six, p.addr, n⟩ (W.setCell ⟨g, 17, none⟩ (.int .i64 n)) :=
  ⟨h.1.setOther (by have := h.2.2.2.2; omega) _ _, h.2.1.setLen f n, h.2.2.2.1.setCell (by have := h.2.2.2.2; simp; omega) _⟩
theorem drewN_below (W : World) (q : Nat) : Below W.heap.size W (W.drewN q) := ⟨rfl, rfl, rfl, Nat.le_refl _, fun _ _ => rfl⟩
theorem most_in (s : Bool) : -9223372036854775808 ≤ mostP s ∧ mostP s ≤ 9223372036854775807 := by cases s <;> decide
set_option maxRecDepth 100000 in
set_option maxHeartbeats 8000000 in
theorem pparse_any (s : ByteArray) (w : World) (hs : s.size ≤ 1000000) (hE : Env8 w) :
    Calls Tryd.prog 26 #[.string s] w fun r w' => r = .returned (.tuple #[((parP s.data.toList).getD zeroP).val, .bool (parP s.data.toList).isSome]) ∧ Below w.heap.size w w' := by
  rw [← parG_eq]
  have z : ShowZ w zeroP (w.alloc (.cells zeroP.cells 24)) := ⟨pfxT_new w zeroP, hE.al _, (Below.refl _ _).alloc (Nat.le_refl _) _⟩
  obtain ⟨m, hm⟩ := z.2.1.env.max
  have hcut := Tryd.strings_Cut s ⟨#[47]⟩ m _ (by omega) hm
  rw [show (⟨#[47]⟩ : ByteArray).data.toList = [47] from rfl, cut_one] at hcut
  have hlen := cut1_len 47 s.data.toList
  have hll : s.data.toList.length = s.size := rfl
  have HA := Lib.hid (fun W h => paddr_any ⟨(cut1 47 s.data.toList).1.toArray⟩ W (by rw [str_len]; omega) h)
  have HNm := Lib.hid (fun W => number_any ⟨(cut1 47 s.data.toList).2.toArray⟩ (mostP (colV (cut1 47 s.data.toList).1).isSome) W (by rw [str_len]; omega) (most_in _).1 (most_in _).2)
  have HCk := Lib.hid (fun W => pcheck_any (pfxG (cut1 47 s.data.toList).1 (cut1 47 s.data.toList).2) W (adrT_length _))
  have HLo := Lib.hid (fun W => plongest_any (colV (cut1 47 s.data.toList).1).isSome W)
  unfold parG
  generalize (cut1 47 s.data.toList).1 = t at *
  generalize (cut1 47 s.data.toList).2 = d at *
  rw [show (⟨t.toArray⟩ : ByteArray).data.toList = t from rfl] at HA
  rw [show (⟨d.toArray⟩ : ByteArray).data.toList = d from rfl] at HNm
  have hT := adrT_length t
  have HT := Lib.hid hT
  rw [← zeroP_cells] at z hcut
  have HCUT := Lib.hid hcut
  have Z := Lib.hid z
  clear z hE hs hcut hm hlen hll
  generalize s.data.toList.contains 47 = found at *
  cases hA : (dotB t || (colV t).isSome)
  · rw [hA] at HA
    rw [Bool.false_and, if_neg (by simp)]
    clear HNm HCk HLo hA hT
    have HPL := Lib.hid (show (pfxA t).addr.length = 16 from HT.out)
    generalize pfxA t = a at *
    go_enter Tryd.func26, Tryd.ntmps26
    go_wp2_with (first | (go_at_call 40; refine HCUT.out.mono ?_; rintro e w0 ⟨rfl, q, rfl⟩) | (go_at_call 41; refine (HA.out _ (Z.out.2.1.up (drewN_below _ _))).mono ?_; rintro e w1 ⟨rfl, b1⟩; refine Hid.out ?_))
    refine Lib.hid ?_
    have Z1 := Lib.hid (parZ_new a ((Z.out.up (drewN_below _ _)).up b1))
    clear Z b1 HCUT
    go_wp2_with (first | (refine wpList_store_newP rfl (.tmp 7) (.tmp 18) rfl a HPL.out _ rfl rfl rfl ?_) | (refine wpList_build_pfx0 rfl rfl ?_) | (refine wpList_store_pfx rfl (.tmp 2) (.tmp 22) rfl w.heap.size zeroP rfl _ rfl rfl Z1.out.1 rfl ?_))
    exact bodyPost_ret (results_pfx2 Tryd.results26 _ _ w.heap.size zeroP rfl rfl (pfxT_setRow Z1.out.1 _)) rfl ⟨rfl, below_setRow Z1.out.2.2.2.1 (Nat.le_refl _) _⟩
  · rw [hA] at HA
    rw [Bool.true_and]
    clear hA hT
    have HPL := Lib.hid (show (pfxA t).addr.length = 16 from HT.out)
    have HGL := Lib.hid (show (pfxG t d).addr.length = 16 from HT.out)
    have HPS := Lib.hid (show (pfxA t).six = (colV t).isSome from rfl)
    have HG : Hid (∀ a : Pfx, a = pfxA t → ∀ n : Int, n = numV d (mostP (colV t).isSome) → (⟨a.six, a.addr, n⟩ : Pfx) = pfxG t d) := by
      rintro a rfl n rfl
      rfl
    generalize hnb : numB d (mostP (colV t).isSome) = nb at *
    generalize hnv : numV d (mostP (colV t).isSome) = nv at *
    generalize hck : chkP (pfxG t d) = ck at *
    generalize pfxG t d = g at *
    generalize hpa : pfxA t = a at *
    generalize (colV t).isSome = six at *
    generalize mostP six = ms at *
    have HG2 : Hid ((⟨a.six, a.addr, nv⟩ : Pfx) = g) := HG.out a rfl nv rfl
    clear HG hnb hnv hck hpa
    go_enter Tryd.func26, Tryd.ntmps26
    go_wp2_with (first | (go_at_call 40; refine HCUT.out.mono ?_; rintro e w0 ⟨rfl, q, rfl⟩) | (go_at_call 41; refine (HA.out _ (Z.out.2.1.up (drewN_below _ _))).mono ?_; rintro e w1 ⟨rfl, b1⟩; refine Hid.out ?_))
    refine Lib.hid ?_
    have Z1 := Lib.hid (parZ_new a ((Z.out.up (drewN_below _ _)).up b1))
    have c1 := Z1.out.2.1.six
    rw [HPS.out] at c1
    clear Z b1 HCUT HA
    go_wp2_with (first | (refine wpList_store_newP rfl (.tmp 7) (.tmp 18) rfl a HPL.out _ rfl rfl rfl ?_) | (go_at_call 36; refine (HLo.out _).mono ?_; rintro e w2 ⟨rfl, rfl⟩) | (go_at_call 42; refine (HNm.out _).mono ?_; rintro e w3 ⟨rfl, b3⟩; refine Hid.out ?_))
    refine Lib.hid ?_
    have Z3 := Lib.hid (Z1.out.up b3)
    clear Z1 b3 HNm HLo c1
    have Z4 := Lib.hid (parY_len Z3.out HPL.out nv)
    rw [HG2.out] at Z4
    have f4 := Z3.out.2.1.frozen 17
    generalize w1.heap.size = gp at *
    have c17 := Z3.out.2.1.len HPL.out
    clear Z3
    cases nb
    · clear HCk
      go_wp2_with (first | (refine wpList_build_pfx0 rfl rfl ?_) | (refine wpList_store_pfx rfl (.tmp 2) (.tmp 39) rfl w.heap.size zeroP rfl _ rfl rfl Z4.out.1 rfl ?_))
      exact bodyPost_ret (results_pfx2 Tryd.results26 _ _ w.heap.size zeroP rfl rfl (pfxT_setRow Z4.out.1 _)) rfl ⟨rfl, below_setRow Z4.out.2.2 (Nat.le_refl _) _⟩
    · cases ck
      · go_wp2_with (first | (refine wpList_load_pfxG rfl (.tmp 7) rfl gp g HGL.out rfl Z4.out.2.1 ?_) | (go_at_call 10; refine (HCk.out _).mono ?_; rintro e w5 ⟨rfl, b5⟩; refine Hid.out ?_))
        refine Lib.hid ?_
        have Z5 := Lib.hid (Z4.out.up b5)
        clear Z4 b5 HCk f4 c17
        go_wp2_with (first | (refine wpList_build_pfx0 rfl rfl ?_) | (refine wpList_store_pfx rfl (.tmp 2) (.tmp 39) rfl w.heap.size zeroP rfl _ rfl rfl Z5.out.1 rfl ?_))
        exact bodyPost_ret (results_pfx2 Tryd.results26 _ _ w.heap.size zeroP rfl rfl (pfxT_setRow Z5.out.1 _)) rfl ⟨rfl, below_setRow Z5.out.2.2 (Nat.le_refl _) _⟩
      · go_wp2_with (first | (refine wpList_load_pfxG rfl (.tmp 7) rfl gp g HGL.out rfl Z4.out.2.1 ?_) | (go_at_call 10; refine (HCk.out _).mono ?_; rintro e w5 ⟨rfl, b5⟩; refine Hid.out ?_))
        refine Lib.hid ?_
        have Z5 := Lib.hid (Z4.out.up b5)
        clear Z4 b5 HCk f4 c17
        go_wp2_with (first | (refine wpList_load_pfx rfl (.tmp 7) rfl gp g HGL.out rfl Z5.out.2.1 ?_) | (refine wpList_store_pfx rfl (.tmp 2) (.tmp 40) rfl w.heap.size g HGL.out _ rfl rfl Z5.out.1 rfl ?_))
        exact bodyPost_ret (results_pfx2 Tryd.results26 _ _ w.heap.size g HGL.out rfl (pfxT_setRow Z5.out.1 _)) rfl ⟨rfl, below_setRow Z5.out.2.2 (Nat.le_refl _) _⟩
end Go.Proofs.YtlbgmpjeckigjaaDoor

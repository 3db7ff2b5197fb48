/- The document's prefixes: Parse. -/
import Derived.Test.YtlbgmpjeckigjaaDoorRp3
namespace Go.Proofs.YtlbgmpjeckigjaaDoor
open Go Go.RowKit

/-- An address is stored into a prefix's box. -/
theorem run_store_adr {w : World} {g : Nat} {p : Pfx} {l : List UInt8} (h : PfxT w g p) (f : p.addr.length = 16) (hl : l.length = 16) :
    (storeVar 22 ⟨g, 1, none⟩ (.agg (byteVals l).toArray)).run Tryd.prog w = .ok () (w.setRow g (Pfx.cells ⟨p.six, l, p.len⟩)) := by
  have := run_storeCells_at (P := Tryd.prog) g 1 24 (byteVals l) 0 p.cells w h (by rw [pfx_size f, byteVals_length, hl]; omega) (byteVals_oneCell l)
  rw [show (p.cells.toList.take (1 + 0) ++ byteVals l ++ p.cells.toList.drop (1 + 0 + (byteVals l).length)).toArray = Pfx.cells ⟨p.six, l, p.len⟩ by
    unfold Pfx.cells Pfx.row
    rw [byteVals_length, hl]
    congr 1
    rw [show 1 + 0 + 16 = 16 + 1 from rfl, List.drop_succ_cons, List.drop_append_of_le_length (by rw [byteVals_length, f]; omega), List.drop_of_length_le (by rw [byteVals_length, f]; omega)]
    rfl] at this
  have hs : (byteVals l).length = 16 := by rw [byteVals_length, hl]
  have hi := arr16P.info
  cases hq : Tryd.prog.info? 22 with
  | none => rw [hq] at hi; cases hi
  | some i =>
    have hz : 16 = i.size := by rw [hq] at hi; exact (Option.some.inj hi).symm
    have hs2 : (byteVals l).length = i.size := by omega
    simp [storeVar, sizeOf, typeInfo, hq, Value.cells, hs2, this]
theorem wpList_store_adr {ops : Array Oper} {rest : List Oper} {o : Oper} {a : Act} {w : World} {Q : Exit → Act → World → Prop} (hgd : o.guard = none) (x y : Operand) (ho : o.op = .store 22 x y) (g : Nat) (p : Pfx) (l : List UInt8) (f : p.addr.length = 16) (hl : l.length = 16) (hx : a.eval x = .pointer (some ⟨g, 1, none⟩)) (hy : a.eval y = .agg (byteVals l).toArray) (hg : PfxT w g p)
    (hR : wpList Tryd.prog ops Q rest (a.put o.dst undef) (w.setRow g (Pfx.cells ⟨p.six, l, p.len⟩))) : wpList Tryd.prog ops Q (o :: rest) a w :=
  wpList_plain hgd fun K hK => by
    unfold Oper.wp execOp
    simp only [ho, hx, hy, Instr.storeAt, Instr.sureAddr, Sem.run_bind, Sem.run_pure, Result.andThen_ok, run_store_adr hg f hl]
    exact hK _ _ hR
/-! Where the last slash stands. -/
theorem last_snoc (d x : UInt8) : ∀ a : List UInt8, lastAt d (a ++ [x]) = if x = d then some a.length else lastAt d a
  | [] => by
    show (match lastAt d [] with | some k => some (k + 1) | none => if x = d then some 0 else none) = _
    rfl
  | b :: a => by
    have ih := last_snoc d x a
    show (match lastAt d (a ++ [x]) with | some k => some (k + 1) | none => if b = d then some 0 else none) = _
    rw [ih]
    by_cases h : x = d
    · rw [if_pos h, if_pos h]
      rfl
    · rw [if_neg h, if_neg h]
      rfl
theorem take_snoc (l : List UInt8) (n : Nat) (h : n < l.length) : l.take (n + 1) = l.take n ++ [l.getD n 0] := by
  rw [List.take_succ_eq_append_getElem h]
  simp [List.getD, h]
theorem last_take (l : List UInt8) (n : Nat) (h : n < l.length) : lastAt 47 (l.take (n + 1)) = if byteAt l n = 47 then some n else lastAt 47 (l.take n) := by
  rw [take_snoc l n h, last_snoc, List.length_take, Nat.min_eq_left (by omega)]
  unfold byteAt
  by_cases he : l.getD n 0 = 47
  · rw [if_pos he, if_pos (by rw [he]; rfl)]
  · rw [if_neg he, if_neg (fun hc => he (UInt8.toNat.inj (by have : (47 : UInt8).toNat = 47 := rfl; omega)))]
theorem four_build (l : List UInt8) (h : l.length = 4) : Tryd.prog.built 22 [(0, .int .u8 (byteAt l 0)), (1, .int .u8 (byteAt l 1)), (2, .int .u8 (byteAt l 2)), (3, .int .u8 (byteAt l 3))] = some (byteVals (l ++ List.replicate 12 0)).toArray := by
  obtain ⟨a, b, c, d, rfl⟩ : ∃ a b c d, l = [a, b, c, d] := by
    match l, h with
    | [a, b, c, d], _ => exact ⟨a, b, c, d, rfl⟩
  clear h
  kernel_rfl
theorem wpList_build_four {ops : Array Oper} {rest : List Oper} {o : Oper} {a : Act} {w : World} {Q : Exit → Act → World → Prop} (hgd : o.guard = none) (x0 x1 x2 x3 : Operand) (ho : o.op = .build 22 #[(0, x0), (1, x1), (2, x2), (3, x3)]) (l E : List UInt8) (hl : l.length = 4) (hE : l ++ List.replicate 12 0 = E)
    (h0 : a.eval x0 = .int .u8 (byteAt l 0)) (h1 : a.eval x1 = .int .u8 (byteAt l 1)) (h2 : a.eval x2 = .int .u8 (byteAt l 2)) (h3 : a.eval x3 = .int .u8 (byteAt l 3))
    (hR : wpList Tryd.prog ops Q rest (a.put o.dst (arrV E)) w) : wpList Tryd.prog ops Q (o :: rest) a w := by
  subst hE
  exact wpList_plain hgd fun K hK => by
    unfold Oper.wp execOp
    have hb := run_build (P := Tryd.prog) w 22 #[(0, a.eval x0), (1, a.eval x1), (2, a.eval x2), (3, a.eval x3)] (byteVals (l ++ List.replicate 12 0)).toArray (by rw [h0, h1, h2, h3]; exact four_build l hl)
    simp only [ho, List.map_toArray, List.map_cons, List.map_nil, Sem.run_bind, hb, Result.andThen_ok]
    exact hK _ _ hR
set_option maxRecDepth 100000 in
set_option maxHeartbeats 8000000 in
theorem qparse_any (s : ByteArray) (w : World) (hs : s.size ≤ 100000) :
    Calls Tryd.prog 27 #[.string s] w fun r w' => r = .returned (.tuple #[((parP s.data.toList).getD zeroP).val, .bool (parP s.data.toList).isSome]) ∧ Below w.heap.size w w' := by
  have z : OneZ w zeroP (w.alloc (.cells zeroP.cells 24)) := oneZ_new w zeroP
  have Z := Lib.hid z
  rw [← zeroP_cells] at Z
  obtain ⟨l, hl⟩ : ∃ l, s.data.toList = l := ⟨_, rfl⟩
  obtain rfl : s = ⟨l.toArray⟩ := by rw [← hl]
  have hll : l.length ≤ 100000 := by rw [str_len] at hs; exact hs
  rw [str_list]
  generalize hR : parP l = R
  have HR := Lib.hid hR
  have HSZ := Lib.hid (str_len l)
  clear z hl hR hs
  go_enter Tryd.func27, Tryd.ntmps27
  go_wp2
  go_loop [4] (fun i => ∃ n : Nat, n ≤ l.length ∧ i = .int .i64 ((n : Int) - 1) ∧ lastAt 47 l = lastAt 47 (l.take n)) (fun i => (intOf i + 1).toNat)
  case atStart => exact ⟨l.length, Nat.le_refl _, rfl, by rw [List.take_length]⟩
  case round =>
    obtain ⟨n, hn, rfl, hla⟩ := hrel
    cases n with
    | zero =>
      have HN : Hid (R = none) := by
        show R = none
        rw [← HR.out]
        unfold parP
        rw [hla]
        rfl
      clear hla
      rw [show ((0 : Nat) : Int) - 1 = -1 from rfl]
      go_wp2_with (first | (refine wpList_build_pfx0 rfl rfl ?_) | (refine wpList_store_pfx rfl (.tmp 2) (.tmp 27) rfl w.heap.size zeroP rfl _ rfl rfl Z.out.1 rfl ?_))
      exact bodyPost_ret (results_pfx2 Tryd.results27 _ _ w.heap.size zeroP rfl rfl (pfxT_setRow Z.out.1 _)) rfl ⟨by rw [HN.out]; rfl, below_setRow Z.out.2 (Nat.le_refl _) _⟩
    | succ m =>
      rw [show ((m + 1 : Nat) : Int) - 1 = (m : Int) by omega]
      have hix := fun W => index_str W l m (by omega)
      have hlt := last_take l m (by omega)
      by_cases hb : byteAt l m = 47
      · rw [if_pos hb] at hlt
        rw [hb] at hix
        have hR2 : R = if numB (l.drop (m + 1)) 128 && (dotB (l.take m) || (colV (l.take m)).isSome) && chkP (pfxOf (l.take m) (l.drop (m + 1))) then some (pfxOf (l.take m) (l.drop (m + 1))) else none := by
          rw [← HR.out]
          unfold parP
          rw [hla.trans hlt]
        have hx1 : (⟨l.toArray⟩ : ByteArray).extract (m + 1) l.length = ⟨(l.drop (m + 1)).toArray⟩ := by
          rw [extract_mk, str_list, List.take_of_length_le (by rw [List.length_drop]; omega)]
        have hx2 : (⟨l.toArray⟩ : ByteArray).extract 0 m = ⟨(l.take m).toArray⟩ := by
          rw [extract_mk, str_list]
          rfl
        have hNm := fun W => rnumber_any ⟨(l.drop (m + 1)).toArray⟩ 128 W (by rw [str_len, List.length_drop]; omega) (by omega)
        have hD := fun W => rdparse_any ⟨(l.take m).toArray⟩ W (by rw [str_len, List.length_take]; omega)
        have hC := fun W => rparse7_any ⟨(l.take m).toArray⟩ (l.take m) rfl W (by rw [str_len, List.length_take]; omega)
        rw [str_list, ← hx1] at hNm
        rw [str_list, ← hx2] at hD
        rw [← hx2] at hC
        have HNm := Lib.hid hNm
        have HD := Lib.hid hD
        have HC := Lib.hid hC
        have HDL := Lib.hid (dotL_length (l.take m))
        have HCL := Lib.hid (colA_length (l.take m))
        have hP : pfxOf (l.take m) (l.drop (m + 1)) = ⟨(colV (l.take m)).isSome, if dotB (l.take m) then dotL (l.take m) ++ List.replicate 12 0 else colA (l.take m), numV (l.drop (m + 1)) 128⟩ := rfl
        rw [hP] at hR2
        clear hP hNm hD hC hx1 hx2 hla hlt hb HR
        generalize numB (l.drop (m + 1)) 128 = nb at *
        generalize numV (l.drop (m + 1)) 128 = nv at *
        generalize dotB (l.take m) = dot at *
        generalize dotL (l.take m) = D at *
        generalize colA (l.take m) = C at *
        generalize (colV (l.take m)).isSome = six at *
        go_wp2_with (first | (go_at_call 43; refine (HNm.out _).mono ?_; rintro e w0 ⟨rfl, rfl⟩) | (go_at_call 44; refine (HD.out _).mono ?_; rintro e w1 ⟨rfl, b1⟩; refine Hid.out ?_))
        refine Lib.hid ?_
        have Z1 : Hid (OneZ w zeroP (w1.alloc (.cells (byteVals D).toArray 45)) ∧ ArrT 45 (w1.alloc (.cells (byteVals D).toArray 45)) w1.heap.size D) := ⟨(Z.out.up b1).up ((Below.refl w1.heap.size w1).alloc (Nat.le_refl _) _), arrT_new w1 D⟩
        clear Z b1 HNm HD hix
        go_wp2_with (first | (refine wpList_store_newT rfl (.tmp 7) (.tmp 41) rfl D (by rw [HDL.out]; exact arr4) _ rfl rfl (by rw [HDL.out]; rfl) ?_) | (go_at_call 45; refine (HC.out _).mono ?_; rintro e w2 ⟨rfl, b2⟩; refine Hid.out ?_))
        refine Lib.hid ?_
        have Z2 : Hid (OneZ w zeroP w2 ∧ ArrT 45 w2 w1.heap.size D) := ⟨Z1.out.1.up b2, Z1.out.2.up b2⟩
        have HC16 := Lib.hid (arrT_new (t := 22) w2 C)
        have Z3 : Hid (ParY w (w2.heap.size + 1) ⟨six, C, nv⟩ ((w2.alloc (.cells (byteVals C).toArray 22)).alloc (.cells (Pfx.cells ⟨six, C, nv⟩) 24)) ∧ ArrT 45 ((w2.alloc (.cells (byteVals C).toArray 22)).alloc (.cells (Pfx.cells ⟨six, C, nv⟩) 24)) w1.heap.size D ∧ w.heap.size < w2.heap.size + 1) := by
          have b : Below w2.heap.size w2 ((w2.alloc (.cells (byteVals C).toArray 22)).alloc (.cells (Pfx.cells ⟨six, C, nv⟩) 24)) := ((Below.refl _ _).alloc (Nat.le_refl _) _).alloc (by simp) _
          have h := pfxT_new (w2.alloc (.cells (byteVals C).toArray 22)) ⟨six, C, nv⟩
          rw [World.size_alloc] at h
          have hlt := Z2.out.1.1.lt
          exact ⟨⟨Z2.out.1.1.up b, h, (Z2.out.1.up b).2⟩, Z2.out.2.up b, by omega⟩
        clear Z1 Z2 b2 HC
        cases dot
        · have HN : Hid (R = if nb && six && chkP ⟨six, C, nv⟩ then some ⟨six, C, nv⟩ else none) := by
            show R = _
            rw [hR2]
            cases nb <;> cases six <;> rfl
          have HCk := Lib.hid (fun W => qcheck_any ⟨six, C, nv⟩ W HCL.out)
          have HPL0 : Hid (∀ P : Pfx, Pfx.mk six C nv = P → P.addr.length = 16) := by
            rintro P rfl
            exact HCL.out
          clear hR2
          go_wp2_with (first | (refine wpList_store_newT rfl (.tmp 9) (.tmp 48) rfl C (by rw [HCL.out]; exact arr16P) _ rfl rfl (by rw [HCL.out]; rfl) ?_) | (refine wpList_load_arrT rfl (.tmp 9) rfl w2.heap.size C (by rw [HCL.out]; exact arr16P) rfl HC16.out ?_) | (refine wpList_build_pfx rfl (.tmp 50) (.tmp 51) (.tmp 52) rfl ⟨six, C, nv⟩ HCL.out rfl rfl rfl ?_) | (refine wpList_store_newP rfl (.tmp 11) (.tmp 53) rfl ⟨six, C, nv⟩ HCL.out _ (by rw [World.size_alloc]; rfl) rfl rfl ?_; refine Hid.out ?_))
          refine Lib.hid ?_
          have Z4 := Lib.hid Z3.out.1
          clear Z3 HC16 HDL HCL
          generalize (w2.alloc (.cells (byteVals C).toArray 22)).alloc (.cells (Pfx.cells ⟨six, C, nv⟩) 24) = Y at *
          generalize w2.heap.size + 1 = gp at *
          generalize hP : (Pfx.mk six C nv) = P at *
          have HPL := Lib.hid (HPL0.out P rfl)
          clear hP HPL0
          generalize chkP P = ck at *
          cases nb
          · go_wp2_with (first | (refine wpList_build_pfx0 rfl rfl ?_) | (refine wpList_store_pfx rfl (.tmp 2) (.tmp 80) rfl w.heap.size zeroP rfl _ rfl rfl Z4.out.1 rfl ?_))
            exact bodyPost_ret (results_pfx2 Tryd.results27 _ _ w.heap.size zeroP rfl rfl (pfxT_setRow Z4.out.1 _)) rfl ⟨by rw [HN.out]; rfl, below_setRow Z4.out.2.2 (Nat.le_refl _) _⟩
          · cases six
            · go_wp2_with (first | (refine wpList_build_pfx0 rfl rfl ?_) | (refine wpList_store_pfx rfl (.tmp 2) (.tmp 80) rfl w.heap.size zeroP rfl _ rfl rfl Z4.out.1 rfl ?_))
              exact bodyPost_ret (results_pfx2 Tryd.results27 _ _ w.heap.size zeroP rfl rfl (pfxT_setRow Z4.out.1 _)) rfl ⟨by rw [HN.out]; rfl, below_setRow Z4.out.2.2 (Nat.le_refl _) _⟩
            · cases ck
              · go_wp2_with (first | (refine wpList_load_pfxG rfl (.tmp 11) rfl gp P HPL.out rfl Z4.out.2.1 ?_) | (go_at_call 11; refine (HCk.out _).mono ?_; rintro e w5 ⟨rfl, b5⟩; refine Hid.out ?_))
                refine Lib.hid ?_
                have Z5 := Lib.hid (Z4.out.up b5)
                clear Z4 b5 HCk
                go_wp2_with (first | (refine wpList_build_pfx0 rfl rfl ?_) | (refine wpList_store_pfx rfl (.tmp 2) (.tmp 80) rfl w.heap.size zeroP rfl _ rfl rfl Z5.out.1 rfl ?_))
                exact bodyPost_ret (results_pfx2 Tryd.results27 _ _ w.heap.size zeroP rfl rfl (pfxT_setRow Z5.out.1 _)) rfl ⟨by rw [HN.out]; rfl, below_setRow Z5.out.2.2 (Nat.le_refl _) _⟩
              · go_wp2_with (first | (refine wpList_load_pfxG rfl (.tmp 11) rfl gp P HPL.out rfl Z4.out.2.1 ?_) | (go_at_call 11; refine (HCk.out _).mono ?_; rintro e w5 ⟨rfl, b5⟩; refine Hid.out ?_))
                refine Lib.hid ?_
                have Z5 := Lib.hid (Z4.out.up b5)
                clear Z4 b5 HCk
                go_wp2_with (first | (refine wpList_load_pfx rfl (.tmp 11) rfl gp P HPL.out rfl Z5.out.2.1 ?_) | (refine wpList_store_pfx rfl (.tmp 2) (.tmp 81) rfl w.heap.size P HPL.out _ rfl rfl Z5.out.1 rfl ?_))
                exact bodyPost_ret (results_pfx2 Tryd.results27 _ _ w.heap.size P HPL.out rfl (pfxT_setRow Z5.out.1 _)) rfl ⟨by rw [HN.out]; rfl, below_setRow Z5.out.2.2 (Nat.le_refl _) _⟩
        · obtain ⟨E, hE⟩ : ∃ E, D ++ List.replicate 12 0 = E := ⟨_, rfl⟩
          have HD16 : Hid (E.length = 16) := by
            show E.length = 16
            rw [← hE, List.length_append, HDL.out, List.length_replicate]
          have HE := Lib.hid hE
          have HN : Hid (R = if nb && chkP ⟨six, E, nv⟩ then some ⟨six, E, nv⟩ else none) := by
            show R = _
            rw [hR2, ← hE]
            cases nb <;> rfl
          have HCk := Lib.hid (fun W => qcheck_any ⟨six, E, nv⟩ W HD16.out)
          have HPL0 : Hid (∀ P : Pfx, Pfx.mk six E nv = P → P.addr.length = 16) := by
            rintro P rfl
            exact HD16.out
          have x0 := Z3.out.2.1.cell 0 (by rw [HDL.out]; omega)
          have x1 := Z3.out.2.1.cell 1 (by rw [HDL.out]; omega)
          have x2 := Z3.out.2.1.cell 2 (by rw [HDL.out]; omega)
          have x3 := Z3.out.2.1.cell 3 (by rw [HDL.out]; omega)
          clear hR2 hE
          go_wp2_with (first | (refine wpList_store_newT rfl (.tmp 9) (.tmp 48) rfl C (by rw [HCL.out]; exact arr16P) _ rfl rfl (by rw [HCL.out]; rfl) ?_) | (refine wpList_load_arrT rfl (.tmp 9) rfl w2.heap.size C (by rw [HCL.out]; exact arr16P) rfl HC16.out ?_) | (refine wpList_build_pfx rfl (.tmp 50) (.tmp 51) (.tmp 52) rfl ⟨six, C, nv⟩ HCL.out rfl rfl rfl ?_) | (refine wpList_store_newP rfl (.tmp 11) (.tmp 53) rfl ⟨six, C, nv⟩ HCL.out _ (by rw [World.size_alloc]; rfl) rfl rfl ?_) | (refine wpList_build_four rfl (.tmp 56) (.tmp 58) (.tmp 60) (.tmp 62) rfl D E HDL.out HE.out rfl rfl rfl rfl ?_) | (refine wpList_store_adr rfl (.tmp 64) (.tmp 63) rfl (w2.heap.size + 1) ⟨six, C, nv⟩ E HCL.out HD16.out rfl rfl Z3.out.1.2.1 ?_; refine Hid.out ?_))
          refine Lib.hid ?_
          have Z4 : Hid (ParY w (w2.heap.size + 1) ⟨six, E, nv⟩ (((w2.alloc (.cells (byteVals C).toArray 22)).alloc (.cells (Pfx.cells ⟨six, C, nv⟩) 24)).setRow (w2.heap.size + 1) (Pfx.cells ⟨six, E, nv⟩))) :=
            ⟨Z3.out.1.1.rowOther (by have := Z3.out.2.2; omega) _, pfxT_setRow Z3.out.1.2.1 _, below_setRow Z3.out.1.2.2 (by have := Z3.out.2.2; omega) _⟩
          clear Z3 HC16 HDL HCL x0 x1 x2 x3
          generalize ((w2.alloc (.cells (byteVals C).toArray 22)).alloc (.cells (Pfx.cells ⟨six, C, nv⟩) 24)).setRow (w2.heap.size + 1) (Pfx.cells ⟨six, E, nv⟩) = Y at *
          generalize w2.heap.size + 1 = gp at *
          generalize hP : (Pfx.mk six E nv) = P at *
          have HPL := Lib.hid (HPL0.out P rfl)
          clear hP HPL0
          generalize chkP P = ck at *
          cases nb
          · go_wp2_with (first | (refine wpList_build_pfx0 rfl rfl ?_) | (refine wpList_store_pfx rfl (.tmp 2) (.tmp 80) rfl w.heap.size zeroP rfl _ rfl rfl Z4.out.1 rfl ?_))
            exact bodyPost_ret (results_pfx2 Tryd.results27 _ _ w.heap.size zeroP rfl rfl (pfxT_setRow Z4.out.1 _)) rfl ⟨by rw [HN.out]; rfl, below_setRow Z4.out.2.2 (Nat.le_refl _) _⟩
          · cases ck
            · go_wp2_with (first | (refine wpList_load_pfxG rfl (.tmp 11) rfl gp P HPL.out rfl Z4.out.2.1 ?_) | (go_at_call 11; refine (HCk.out _).mono ?_; rintro e w5 ⟨rfl, b5⟩; refine Hid.out ?_))
              refine Lib.hid ?_
              have Z5 := Lib.hid (Z4.out.up b5)
              clear Z4 b5 HCk
              go_wp2_with (first | (refine wpList_build_pfx0 rfl rfl ?_) | (refine wpList_store_pfx rfl (.tmp 2) (.tmp 80) rfl w.heap.size zeroP rfl _ rfl rfl Z5.out.1 rfl ?_))
              exact bodyPost_ret (results_pfx2 Tryd.results27 _ _ w.heap.size zeroP rfl rfl (pfxT_setRow Z5.out.1 _)) rfl ⟨by rw [HN.out]; rfl, below_setRow Z5.out.2.2 (Nat.le_refl _) _⟩
            · go_wp2_with (first | (refine wpList_load_pfxG rfl (.tmp 11) rfl gp P HPL.out rfl Z4.out.2.1 ?_) | (go_at_call 11; refine (HCk.out _).mono ?_; rintro e w5 ⟨rfl, b5⟩; refine Hid.out ?_))
              refine Lib.hid ?_
              have Z5 := Lib.hid (Z4.out.up b5)
              clear Z4 b5 HCk
              go_wp2_with (first | (refine wpList_load_pfx rfl (.tmp 11) rfl gp P HPL.out rfl Z5.out.2.1 ?_) | (refine wpList_store_pfx rfl (.tmp 2) (.tmp 81) rfl w.heap.size P HPL.out _ rfl rfl Z5.out.1 rfl ?_))
              exact bodyPost_ret (results_pfx2 Tryd.results27 _ _ w.heap.size P HPL.out rfl (pfxT_setRow Z5.out.1 _)) rfl ⟨by rw [HN.out]; rfl, below_setRow Z5.out.2.2 (Nat.le_refl _) _⟩
      · rw [if_neg hb] at hlt
        have HN := Lib.hid (hla.trans hlt)
        clear hla hlt
        generalize byteAt l m = x at *
        go_wp2
        go_round
        case rel => exact ⟨m, by omega, rfl, HN.out⟩
        case measure => simp [intOf]
end Go.Proofs.YtlbgmpjeckigjaaDoor

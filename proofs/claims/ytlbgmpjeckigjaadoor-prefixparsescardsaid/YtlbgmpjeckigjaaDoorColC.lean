/- read of package colon. Proved: what it returns. -/
import Derived.Test.YtlbgmpjeckigjaaDoorColB
import Derived.Test.YtlbgmpjeckigjaaDoorDot3
namespace Go.Proofs.YtlbgmpjeckigjaaDoor
open Go Go.RowKit

theorem ColAt.stepNo {l : List UInt8} {ps : List (List UInt8)} {f k : Nat} (h : ColAt l ps f k) (last : Bool) (hk : k < l.length) (hb : byteAt l k = 58) (ho : (withG (grpsV ps) ((l.drop f).take (k - f))).isSome = false) : readO l last = none := by
  cases hg : grpOf ((l.drop f).take (k - f)) with
  | none => exact h.bad last hk hb hg
  | some n =>
    refine h.nine last hk hb ?_
    have hm := h.many
    rw [withG_some (by rw [hg]; rfl)] at ho
    by_cases hp : ps.length = 8
    · exact hp
    · rw [withO_yes (by rw [grpsV_length]; simp; omega)] at ho
      cases ho
theorem ColAt.stepYes {l : List UInt8} {ps : List (List UInt8)} {f k : Nat} (h : ColAt l ps f k) (hk : k < l.length) (hb : byteAt l k = 58) (ho : (withG (grpsV ps) ((l.drop f).take (k - f))).isSome = true) :
    withG (grpsV ps) ((l.drop f).take (k - f)) = some (grpsV (ps ++ [(l.drop f).take (k - f)])) ∧ ColAt l (ps ++ [(l.drop f).take (k - f)]) (k + 1) (k + 1) := by
  cases hg : (grpOf ((l.drop f).take (k - f))).isSome with
  | false => rw [withG_none hg] at ho; cases ho
  | true =>
    rw [withG_some hg] at ho ⊢
    by_cases hp : (grpsV ps).length + [grpV ((l.drop f).take (k - f))].length ≤ 8
    · refine ⟨?_, h.next hk hb ?_ hg⟩
      · rw [withO_yes hp]; simp [grpsV]
      · rw [grpsV_length] at hp; simp at hp; omega
    · rw [withO_no hp] at ho; cases ho
theorem ColAt.endW {l : List UInt8} {ps : List (List UInt8)} {f : Nat} (h : ColAt l ps f l.length) (last : Bool) (hl : l ≠ []) (hd : (last && dotB (l.drop f)) = false) : readO l last = withG (grpsV ps) (l.drop f) := by
  cases hg : grpOf (l.drop f) with
  | none =>
    rw [h.endN last hl hg hd, withG_none (by rw [hg]; rfl)]
  | some n =>
    rw [h.endG last hl n hg, withG_some (by rw [hg]; rfl)]
    have : grpV (l.drop f) = n := by unfold grpV; rw [hg]; rfl
    rw [this]
    unfold withO
    rw [grpsV_length]
    by_cases hp : ps.length ≤ 7
    · rw [if_pos hp, if_pos (by simp; omega)]
    · rw [if_neg hp, if_neg (by simp; omega)]
theorem ColAt.endT {l : List UInt8} {ps : List (List UInt8)} {f : Nat} (h : ColAt l ps f l.length) (hl : l ≠ []) (hd : dotB (l.drop f) = true) (x0 x1 x2 x3 : UInt8) (hx : dotL (l.drop f) = [x0, x1, x2, x3]) :
    readO l true = withO (grpsV ps) [x0.toNat * 256 + x1.toNat, x2.toNat * 256 + x3.toNat] := by
  rw [h.endD hl hd (x0.toNat * 256 + x1.toNat) (x2.toNat * 256 + x3.toNat) (by rw [hx]; rfl) (by rw [hx]; rfl)]
  unfold withO
  rw [grpsV_length]
  by_cases hp : ps.length ≤ 6
  · rw [if_pos hp, if_pos (by simp; omega)]
  · rw [if_neg hp, if_neg (by simp; omega)]
theorem withG_length (g : List Nat) (p : List UInt8) : (rdV (withG g p)).length = 9 := by
  unfold withG
  split
  · exact withO_length _ _
  · rfl
theorem wp_store_intT {t : TypeId} {o : Oper} {a : Act} {w : World} {K : Act → World → Prop} {Q : Exit → Act → World → Prop} (x y : Operand) (ho : o.op = .store t x y) (g : Nat) (l : List Int) (ht : IsRow t l.length) (old : List Int) (hx : a.eval x = .pointer (some ⟨g, 0, none⟩)) (hy : a.eval y = intV l)
    (hg : IntT t w g old) (hold : old.length = l.length) (h : K (a.put o.dst undef) (w.setRow g (intVals l).toArray)) : Oper.wp Tryd.prog o a w K Q :=
  wp_store_row _ x y ho g (intVals l).toArray hx hy _ _ hg (by rw [ht.info]; simp [intVals_length]) (by simp [intVals_length, hold]) (int_one l) h
theorem empty_of {s : ByteArray} (h : s.size = 0) : s = ⟨#[]⟩ := by
  rcases s with ⟨⟨d⟩⟩
  have : d.length = 0 := h
  rw [List.eq_nil_of_length_eq_zero this]
/-- What is held while a text is read. -/
def ReadH (w : World) (s : ByteArray) (G : List Nat) (k : Nat) (W : World) : Prop :=
  IntT 78 W (w.heap.size + 1) (rowI G) ∧ IntT 78 W w.heap.size rowI0 ∧ W.heap[w.heap.size + 1 + 1]? = some (.stringIter s k) ∧ Below w.heap.size w W
theorem ReadH.up {w : World} {s : ByteArray} {G : List Nat} {k : Nat} {W W' : World} (h : ReadH w s G k W) (hb : Below W.heap.size W W') : ReadH w s G k W' :=
  ⟨h.1.up hb, h.2.1.up hb, (hb.block _ (Array.getElem?_eq_some_iff.1 h.2.2.1).1).trans h.2.2.1, below_up h.2.2.2 hb h.2.2.2.size⟩
theorem ReadH.lt {w : World} {s : ByteArray} {G : List Nat} {k : Nat} {W : World} (h : ReadH w s G k W) : w.heap.size + 1 + 1 < W.heap.size := (Array.getElem?_eq_some_iff.1 h.2.2.1).1
theorem ReadH.setRow {w : World} {s : ByteArray} {G : List Nat} {k : Nat} {W : World} (h : ReadH w s G k W) {B : Nat} (hB : w.heap.size + 1 + 1 < B) (cs : Array Value) : ReadH w s G k (W.setRow B cs) :=
  ⟨h.1.rowOther (by omega) _, h.2.1.rowOther (by omega) _, (setRow_other W B _ cs (by omega)).trans h.2.2.1, below_setRow h.2.2.2 (by omega) _⟩
/-- What is held at the end. -/
def ReadE (w : World) (G : List Nat) (W : World) : Prop :=
  IntT 78 W (w.heap.size + 1) (rowI G) ∧ (∃ R, R.length = 9 ∧ IntT 78 W w.heap.size R) ∧ Below w.heap.size w W
theorem ReadE.up {w : World} {G : List Nat} {W W' : World} (h : ReadE w G W) (hb : Below W.heap.size W W') : ReadE w G W' := by
  obtain ⟨R, hR, hi⟩ := h.2.1
  exact ⟨h.1.up hb, ⟨R, hR, hi.up hb⟩, below_up h.2.2 hb h.2.2.size⟩
theorem ReadE.setRow {w : World} {G : List Nat} {W : World} (h : ReadE w G W) (R : List Int) (hR : R.length = 9) : ReadE w G (W.setRow w.heap.size (intVals R).toArray) := by
  obtain ⟨R0, _, hi⟩ := h.2.1
  exact ⟨h.1.rowOther (by omega) _, ⟨R, hR, intT_setRow hi R⟩, below_setRow h.2.2 (Nat.le_refl _) _⟩
/-- And four bytes beside. -/
def ReadD (w : World) (G : List Nat) (B : Nat) (x0 x1 x2 x3 : UInt8) (W : World) : Prop :=
  ReadE w G W ∧ W.cell? ⟨B, 0, none⟩ = some (.int .u8 (x0.toNat : Int)) ∧ W.cell? ⟨B, 1, none⟩ = some (.int .u8 (x1.toNat : Int)) ∧ W.cell? ⟨B, 2, none⟩ = some (.int .u8 (x2.toNat : Int)) ∧ W.cell? ⟨B, 3, none⟩ = some (.int .u8 (x3.toNat : Int)) ∧ B < W.heap.size ∧ w.heap.size < B
theorem ReadD.up {w : World} {G : List Nat} {B : Nat} {x0 x1 x2 x3 : UInt8} {W W' : World} (h : ReadD w G B x0 x1 x2 x3 W) (hb : Below W.heap.size W W') : ReadD w G B x0 x1 x2 x3 W' := by
  obtain ⟨h1, h2, h3, h4, h5, h6, h7⟩ := h
  have hc : ∀ i, W'.cell? ⟨B, i, none⟩ = W.cell? ⟨B, i, none⟩ := fun i => hb.cell (p := ⟨B, i, none⟩) h6
  exact ⟨h1.up hb, by rw [hc]; exact h2, by rw [hc]; exact h3, by rw [hc]; exact h4, by rw [hc]; exact h5, Nat.lt_of_lt_of_le h6 hb.size, h7⟩
theorem ReadD.setRow {w : World} {G : List Nat} {B : Nat} {x0 x1 x2 x3 : UInt8} {W : World} (h : ReadD w G B x0 x1 x2 x3 W) (R : List Int) (hR : R.length = 9) : ReadD w G B x0 x1 x2 x3 (W.setRow w.heap.size (intVals R).toArray) := by
  obtain ⟨h1, h2, h3, h4, h5, h6, h7⟩ := h
  have hc : ∀ i, (W.setRow w.heap.size (intVals R).toArray).cell? ⟨B, i, none⟩ = W.cell? ⟨B, i, none⟩ := fun i => by
    unfold World.cell?
    simp only [setRow_other W w.heap.size B (intVals R).toArray (by omega)]
  exact ⟨h1.setRow R hR, by rw [hc]; exact h2, by rw [hc]; exact h3, by rw [hc]; exact h4, by rw [hc]; exact h5, by simpa using h6, h7⟩
set_option maxRecDepth 100000 in
set_option maxHeartbeats 8000000 in
theorem read_any (s : ByteArray) (last : Bool) (w : World) (hs : s.size ≤ 1000000) :
    Calls Tryd.prog 67 #[.string s, .bool last] w fun r w' => r = .returned (.tuple #[intV (rdV (readO s.data.toList last)), .bool (readO s.data.toList last).isSome]) ∧ Below w.heap.size w w' := by
  generalize hW : ((w.alloc (.cells (intVals rowI0).toArray 78)).alloc (.cells (intVals rowI0).toArray 78)) = W
  have z0 : IntT 78 W w.heap.size rowI0 := by rw [← hW]; exact (intT_new w _).allocO _
  have z1 : IntT 78 W (w.heap.size + 1) rowI0 := by
    have := intT_new (t := 78) (w.alloc (.cells (intVals rowI0).toArray 78)) rowI0
    rw [World.size_alloc, hW] at this
    exact this
  have zb : Below w.heap.size w W := by rw [← hW]; exact ((Below.refl _ _).alloc (Nat.le_refl _) _).alloc (by simp) _
  have zs : W.heap.size = w.heap.size + 1 + 1 := by rw [← hW]; simp
  generalize hl : s.data.toList = l at *
  have hll : l.length = s.size := by rw [← hl]; rfl
  by_cases h0 : s.size = 0
  · have he := empty_of h0
    have hnil : l = [] := List.eq_nil_of_length_eq_zero (by rw [hll]; exact h0)
    subst hnil
    subst he
    have hr : readO [] last = some [] := by cases last <;> rfl
    rw [hr]
    have Z := Lib.hid (And.intro z0 (And.intro z1 zb))
    rw [← hW, ← zero9] at Z
    clear hW z0 z1 zb zs hl hll h0 hr
    clear W
    go_enter Tryd.func67, Tryd.ntmps67
    go_wp2_with (first | (refine wpList_load_intT rfl (.tmp 6) rfl (w.heap.size + 1) rowI0 row9 rfl Z.out.2.1 ?_) | (refine wpList_store_intT rfl (.tmp 4) (.tmp 16) rfl w.heap.size rowI0 row9 rowI0 rfl rfl Z.out.1 rfl ?_))
    exact bodyPost_ret (results_intT2 Tryd.results67 _ _ w.heap.size rowI0 row9 rfl (intT_setRow Z.out.1 _)) rfl ⟨rfl, below_setRow Z.out.2.2 (Nat.le_refl _) _⟩
  · have hne : l ≠ [] := fun e => h0 (by rw [← hll, e]; rfl)
    have e1 : ¬ s.toList = [] := by rw [ByteArray.toList_eq, hl]; exact hne
    have e2 : s.toList.isEmpty = false := by rw [List.isEmpty_eq_false_iff]; exact e1
    have yi : (W.iter s 0).heap[w.heap.size + 1 + 1]? = some (.stringIter s 0) := by rw [← zs]; exact World.iter_heap _ _ _
    have yb : Below W.heap.size W (W.iter s 0) := (Below.refl _ _).alloc (Nat.le_refl _) _
    have Z : Hid (ReadH w s [] 0 (W.iter s 0)) := ⟨z1.up yb, z0.up yb, yi, below_up zb yb zb.size⟩
    have HL := Lib.hid hl
    have HLL := Lib.hid hll
    have HNE := Lib.hid hne
    rw [← hW, ← zero9] at Z
    clear hW z0 z1 zb zs yi yb hl hll hne h0
    clear W
    go_enter Tryd.func67, Tryd.ntmps67
    go_wp2
    go_loopw [7] (fun q wr => ∃ (ps : List (List UInt8)) (f k : Nat), q = .int .i64 (f : Int) ∧ ColAt l ps f k ∧ ReadH w s (grpsV ps) k wr) (fun _ wr => s.size - wr.iterPos (w.heap.size + 1 + 1))
    case atStart => exact ⟨[], 0, 0, rfl, colAt_zero l, Z.out⟩
    case round =>
      obtain ⟨ps, f, k, rfl, hC, hR⟩ := hrel
      clear Z
      have hfk := hC.le
      have hke := hC.end'
      have hit := hR.2.2.1
      by_cases hlt : k < s.size
      · have hkl : k < l.length := by rw [HLL.out]; exact hlt
        have HI := Lib.hid (fun j => Lib.iterAt_heap wr (w.heap.size + 1 + 1) s k j hit)
        have HRJ : Hid (∀ j, ReadH w s (grpsV ps) j (wr.iterAt (w.heap.size + 1 + 1) s j)) := fun j =>
          ⟨hR.1.iterAt (by omega) s j, hR.2.1.iterAt (by omega) s j, Lib.iterAt_heap wr (w.heap.size + 1 + 1) s k j hit, Lib.below_iterAt hR.2.2.2 (by omega) s j⟩
        by_cases hp : byteAt l k = 58
        · have hsk : (s[k].toNat : Int) = 58 := by rw [str_at s k hlt, HL.out, hp]
          have hnx : ∀ ty, (Instr.next (.pointer (some ⟨w.heap.size + 1 + 1, 0, none⟩)) true ty).run Tryd.prog wr = .ok (.tuple #[.bool true, .int .i64 k, .int .i32 58]) (wr.iterAt (w.heap.size + 1 + 1) s (k + 1)) := fun ty => by
            rw [Lib.run_next_ascii_at wr (w.heap.size + 1 + 1) s k ty hit hlt (by omega), hsk]
          have HC := Lib.hid hC
          have hG8 : (grpsV ps).length ≤ 8 := by rw [grpsV_length]; exact hC.many
          have hWG := fun W => withGroup_any (grpsV ps) (s.extract f k) W hG8 (by rw [ByteArray.size_extract]; omega)
          rw [part_extract, HL.out] at hWG
          have HWG := Lib.hid hWG
          have HWL := Lib.hid (withG_length (grpsV ps) ((l.drop f).take (k - f)))
          have HR9 := Lib.hid (rowI_length (grpsV ps) hG8)
          have HR1 := Lib.hid (HRJ.out (k + 1))
          clear hsk hR hC hWG hG8 HRJ HI
          obtain ⟨R, hRd⟩ : ∃ R, rdV (withG (grpsV ps) ((l.drop f).take (k - f))) = R := ⟨_, rfl⟩
          obtain ⟨b, hbd⟩ : ∃ b, (withG (grpsV ps) ((l.drop f).take (k - f))).isSome = b := ⟨_, rfl⟩
          have HNO : Hid (b = false → readO l last = none) := fun e => HC.out.stepNo last hkl hp (by rw [hbd]; exact e)
          have HYES : Hid (b = true → R = rowI (grpsV (ps ++ [(l.drop f).take (k - f)])) ∧ ColAt l (ps ++ [(l.drop f).take (k - f)]) (k + 1) (k + 1)) := fun e => by
            have h := HC.out.stepYes hkl hp (by rw [hbd]; exact e)
            exact ⟨by rw [← hRd, h.1]; rfl, h.2⟩
          rw [hRd, hbd] at HWG
          rw [hRd] at HWL
          clear hRd hbd
          go_wp2_with fail
          have f1 : (f : Int) ≤ (k : Int) := by omega
          have f2 : (k : Int) ≤ (s.size : Int) := by omega
          refine wp_region_noPanic ?_
          refine wp_region_held_drew (S := ReadH w s (grpsV ps) (k + 1)) (by kernel_rfl) ⟨HR1.out.1, HR1.out.2.1, HR1.out.2.2.1, HR1.out.2.2.2.drew⟩ (fun hHeld => ?_)
          generalize (wr.iterAt (w.heap.size + 1 + 1) s (k + 1)).drew = X at hHeld ⊢
          refine held_take (v := intV (rowI (grpsV ps))) 0 rfl (by kernel_rfl) (by kernel_rfl) (by kernel_rfl) (fun _ _ _ h => h) (by rfl) (fun W hSw => exec_load_intR (.tmp 6) rfl (w.heap.size + 1) (rowI (grpsV ps)) (by rw [HR9.out]; exact row9) rfl hSw.1.range) (by assumption) ?_
          simp only [List.setIfInBounds_toArray, List.set_cons_zero, List.set_cons_succ]
          refine held_take (v := ?v176) 1 rfl (by kernel_rfl) (by kernel_rfl) (by kernel_rfl) (fun _ _ _ h => h) (by rfl) ?y176 (by assumption) ?_
          case y176 => (intro w hSw; unfold ReadH at hSw; go_simp; (try with_reducible rfl); (try omega))
          simp only [List.setIfInBounds_toArray, List.set_cons_zero, List.set_cons_succ]
          refine held_take (v := ?v179) 2 rfl (by kernel_rfl) (by kernel_rfl) (by kernel_rfl) (fun _ _ _ h => h) (by rfl) ?y179 (by assumption) ?_
          case y179 => (intro w hSw; unfold ReadH at hSw; go_simp; (try with_reducible rfl); (try omega))
          simp only [List.setIfInBounds_toArray, List.set_cons_zero, List.set_cons_succ]
          refine held_take (v := ?v182) 3 rfl (by kernel_rfl) (by kernel_rfl) (by kernel_rfl) (fun _ _ _ h => h) (by rfl) ?y182 (by assumption) ?_
          case y182 => (intro w hSw; unfold ReadH at hSw; go_simp; (try with_reducible rfl); (try omega))
          simp only [List.setIfInBounds_toArray, List.set_cons_zero, List.set_cons_succ]
          refine held_take (v := ?v185) 4 rfl (by kernel_rfl) (by kernel_rfl) (by kernel_rfl) (fun _ _ _ h => h) (by rfl) ?y185 (by assumption) ?_
          case y185 => (intro w hSw; unfold ReadH at hSw; go_simp; (try with_reducible rfl); (try omega))
          simp only [List.setIfInBounds_toArray, List.set_cons_zero, List.set_cons_succ]
          refine wpAnyH_ready (rs := [5, 9]) (by kernel_rfl) (by simp) (AllReadyH.cons rfl (fun K hK => ?_) (AllReadyH.cons rfl (fun K hK => ?_) AllReadyH.nil))
          · rw [if_pos (by rfl)]
            go_simp
            refine (HWG.out _).mono ?_
            rintro e w2 ⟨rfl, b2⟩
            have hH2 := hHeld.up b2
            refine hK.out _ _ hH2 (fun _ => ?_)
            clear hK K b2
            refine held_take (v := ?v196) 6 rfl (by kernel_rfl) (by kernel_rfl) (by kernel_rfl) (fun _ _ _ h => h) (by rfl) ?y196 (by assumption) ?_
            case y196 => (intro w hSw; unfold ReadH at hSw; go_simp; (try with_reducible rfl); (try omega))
            simp only [List.setIfInBounds_toArray, List.set_cons_zero, List.set_cons_succ]
            refine held_take (v := ?v199) 7 rfl (by kernel_rfl) (by kernel_rfl) (by kernel_rfl) (fun _ _ _ h => h) (by rfl) ?y199 (by assumption) ?_
            case y199 => (intro w hSw; unfold ReadH at hSw; go_simp; (try with_reducible rfl); (try omega))
            simp only [List.setIfInBounds_toArray, List.set_cons_zero, List.set_cons_succ]
            refine held_take (v := ?v202) 8 rfl (by kernel_rfl) (by kernel_rfl) (by kernel_rfl) (fun _ _ _ h => h) (by rfl) ?y202 (by assumption) ?_
            case y202 => (intro w hSw; unfold ReadH at hSw; go_simp; (try with_reducible rfl); (try omega))
            simp only [List.setIfInBounds_toArray, List.set_cons_zero, List.set_cons_succ]
            refine held_one 9 rfl (by kernel_rfl) (by rfl) (fun K hK => ?_)
            go_simp
            have hH3 := hH2.up ((Below.refl w2.heap.size w2).alloc (Nat.le_refl _) (.cells (intVals rowI0).toArray 78))
            refine hK.out _ _ hH3 (fun _ => ?_)
            clear hK K
            refine held_none 10 rfl (by kernel_rfl) (by rfl) (fun K hK => ?_)
            refine wp_store_intT (.tmp 10) (.tmp 32) rfl w2.heap.size R (by rw [HWL.out]; exact row9) rowI0 rfl rfl (intT_new w2 rowI0) (by rw [HWL.out]; rfl) ?_
            have HV : Hid (ReadH w s (grpsV ps) (k + 1) ((w2.alloc (.cells (intVals rowI0).toArray 78)).setRow w2.heap.size (intVals R).toArray) ∧ IntT 78 ((w2.alloc (.cells (intVals rowI0).toArray 78)).setRow w2.heap.size (intVals R).toArray) w2.heap.size R ∧ w.heap.size + 1 + 1 < w2.heap.size) := ⟨hH3.setRow hH2.lt _, intT_setRow (intT_new w2 rowI0) _, hH2.lt⟩
            refine hK.out _ _ HV.out.1 (fun _ => ?_)
            clear hK K
            simp only [Act.put]
            refine held_take (v := ?v216) 11 rfl (by kernel_rfl) (by kernel_rfl) (by kernel_rfl) (fun _ _ _ h => h) (by rfl) ?y216 (by assumption) ?_
            case y216 => (intro w hSw; unfold ReadH at hSw; go_simp; (try with_reducible rfl); (try omega))
            simp only [List.setIfInBounds_toArray, List.set_cons_zero, List.set_cons_succ]
            rw [← zero9] at HV
            clear hH3
            generalize (w2.alloc (.cells #[.int .i64 0, .int .i64 0, .int .i64 0, .int .i64 0, .int .i64 0, .int .i64 0, .int .i64 0, .int .i64 0, .int .i64 0] 78)).setRow w2.heap.size (intVals R).toArray = V at HV ⊢
            generalize w2.heap.size = B at HV ⊢
            refine wpAnyH_done (by kernel_rfl) ?_ _
            refine NoPanic.normal ?_
            cases b with
            | false =>
              have HN0 := Lib.hid (HNO.out rfl)
              clear HNO HYES
              go_wp2_with (refine wpList_store_intT rfl (.tmp 4) (.tmp 36) rfl w.heap.size rowI0 row9 rowI0 rfl rfl HV.out.1.2.1 rfl ?_)
              exact bodyPost_ret (results_intT2 Tryd.results67 _ _ w.heap.size rowI0 row9 rfl (intT_setRow HV.out.1.2.1 _)) rfl ⟨by rw [HN0.out]; rfl, below_setRow HV.out.1.2.2.2 (Nat.le_refl _) _⟩
            | true =>
              obtain ⟨hR', hC'⟩ := HYES.out rfl
              have hV2 : ReadH w s (grpsV (ps ++ [(l.drop f).take (k - f)])) (k + 1) (V.setRow (w.heap.size + 1) (intVals R).toArray) := by
                refine ⟨?_, HV.out.1.2.1.rowOther (by omega) _, (setRow_other V (w.heap.size + 1) _ _ (by omega)).trans HV.out.1.2.2.1, below_setRow HV.out.1.2.2.2 (by omega) _⟩
                rw [← hR']
                exact intT_setRow HV.out.1.1 _
              have HV2 := Lib.hid hV2
              have HC2 := Lib.hid hC'
              clear hV2 hC' hR'
              go_wp2_with (first | (refine wpList_load_intT rfl (.tmp 10) rfl B R (by rw [HWL.out]; exact row9) rfl HV.out.2.1 ?_) | (refine wpList_store_intT rfl (.tmp 6) (.tmp 37) rfl (w.heap.size + 1) R (by rw [HWL.out]; exact row9) (rowI (grpsV ps)) rfl rfl HV.out.1.1 (by rw [HWL.out, HR9.out]) ?_))
              go_roundw
              case rel => exact ⟨_, k + 1, k + 1, by go_num, HC2.out, HV2.out⟩
              case measure => simp only [World.iterPos, HV2.out.2.2.1, hit]; omega
          · rw [if_pos (by rfl)]
            go_simp
            have hH1 := hHeld.up ((Below.refl X.heap.size X).alloc (Nat.le_refl _) (.cells (intVals rowI0).toArray 78))
            have hB1 : IntT 78 (X.alloc (.cells (intVals rowI0).toArray 78)) X.heap.size rowI0 := intT_new X rowI0
            refine hK.out _ _ hH1 (fun _ => ?_)
            clear hK K
            refine held_one 5 rfl (by kernel_rfl) (by rfl) (fun K hK => ?_)
            go_simp
            refine (HWG.out _).mono ?_
            rintro e w2 ⟨rfl, b2⟩
            have hH2 := hH1.up b2
            have hB2 := hB1.up b2
            refine hK.out _ _ hH2 (fun _ => ?_)
            clear hK K b2
            refine held_take (v := ?v258) 6 rfl (by kernel_rfl) (by kernel_rfl) (by kernel_rfl) (fun _ _ _ h => h) (by rfl) ?y258 (by assumption) ?_
            case y258 => (intro w hSw; unfold ReadH at hSw; go_simp; (try with_reducible rfl); (try omega))
            simp only [List.setIfInBounds_toArray, List.set_cons_zero, List.set_cons_succ]
            refine held_take (v := ?v261) 7 rfl (by kernel_rfl) (by kernel_rfl) (by kernel_rfl) (fun _ _ _ h => h) (by rfl) ?y261 (by assumption) ?_
            case y261 => (intro w hSw; unfold ReadH at hSw; go_simp; (try with_reducible rfl); (try omega))
            simp only [List.setIfInBounds_toArray, List.set_cons_zero, List.set_cons_succ]
            refine held_take (v := ?v264) 8 rfl (by kernel_rfl) (by kernel_rfl) (by kernel_rfl) (fun _ _ _ h => h) (by rfl) ?y264 (by assumption) ?_
            case y264 => (intro w hSw; unfold ReadH at hSw; go_simp; (try with_reducible rfl); (try omega))
            simp only [List.setIfInBounds_toArray, List.set_cons_zero, List.set_cons_succ]
            refine held_none 10 rfl (by kernel_rfl) (by rfl) (fun K hK => ?_)
            refine wp_store_intT (.tmp 10) (.tmp 32) rfl X.heap.size R (by rw [HWL.out]; exact row9) rowI0 rfl rfl hB2 (by rw [HWL.out]; rfl) ?_
            have HV : Hid (ReadH w s (grpsV ps) (k + 1) (w2.setRow X.heap.size (intVals R).toArray) ∧ IntT 78 (w2.setRow X.heap.size (intVals R).toArray) X.heap.size R ∧ w.heap.size + 1 + 1 < X.heap.size) := ⟨hH2.setRow hHeld.lt _, intT_setRow hB2 _, hHeld.lt⟩
            refine hK.out _ _ HV.out.1 (fun _ => ?_)
            clear hK K
            simp only [Act.put]
            refine held_take (v := ?v273) 11 rfl (by kernel_rfl) (by kernel_rfl) (by kernel_rfl) (fun _ _ _ h => h) (by rfl) ?y273 (by assumption) ?_
            case y273 => (intro w hSw; unfold ReadH at hSw; go_simp; (try with_reducible rfl); (try omega))
            simp only [List.setIfInBounds_toArray, List.set_cons_zero, List.set_cons_succ]
            generalize w2.setRow X.heap.size (intVals R).toArray = V at HV ⊢
            generalize X.heap.size = B at HV ⊢
            refine wpAnyH_done (by kernel_rfl) ?_ _
            refine NoPanic.normal ?_
            cases b with
            | false =>
              have HN0 := Lib.hid (HNO.out rfl)
              clear HNO HYES
              go_wp2_with (refine wpList_store_intT rfl (.tmp 4) (.tmp 36) rfl w.heap.size rowI0 row9 rowI0 rfl rfl HV.out.1.2.1 rfl ?_)
              exact bodyPost_ret (results_intT2 Tryd.results67 _ _ w.heap.size rowI0 row9 rfl (intT_setRow HV.out.1.2.1 _)) rfl ⟨by rw [HN0.out]; rfl, below_setRow HV.out.1.2.2.2 (Nat.le_refl _) _⟩
            | true =>
              obtain ⟨hR', hC'⟩ := HYES.out rfl
              have hV2 : ReadH w s (grpsV (ps ++ [(l.drop f).take (k - f)])) (k + 1) (V.setRow (w.heap.size + 1) (intVals R).toArray) := by
                refine ⟨?_, HV.out.1.2.1.rowOther (by omega) _, (setRow_other V (w.heap.size + 1) _ _ (by omega)).trans HV.out.1.2.2.1, below_setRow HV.out.1.2.2.2 (by omega) _⟩
                rw [← hR']
                exact intT_setRow HV.out.1.1 _
              have HV2 := Lib.hid hV2
              have HC2 := Lib.hid hC'
              clear hV2 hC' hR'
              go_wp2_with (first | (refine wpList_load_intT rfl (.tmp 10) rfl B R (by rw [HWL.out]; exact row9) rfl HV.out.2.1 ?_) | (refine wpList_store_intT rfl (.tmp 6) (.tmp 37) rfl (w.heap.size + 1) R (by rw [HWL.out]; exact row9) (rowI (grpsV ps)) rfl rfl HV.out.1.1 (by rw [HWL.out, HR9.out]) ?_))
              go_roundw
              case rel => exact ⟨_, k + 1, k + 1, by go_num, HC2.out, HV2.out⟩
              case measure => simp only [World.iterPos, HV2.out.2.2.1, hit]; omega
        · obtain ⟨hr, hw1, hw2, hfree⟩ := rune_free s k hlt 58 (by decide) (by rw [HL.out]; exact hp)
          have hle := decode_le s k
          have hnx : ∀ ty, (Instr.next (.pointer (some ⟨w.heap.size + 1 + 1, 0, none⟩)) true ty).run Tryd.prog wr = .ok (.tuple #[.bool true, .int .i64 k, .int .i32 (Utf8.decode s k).1]) (wr.iterAt (w.heap.size + 1 + 1) s (k + (Utf8.decode s k).2)) := fun ty =>
            Lib.run_next_any_at wr (w.heap.size + 1 + 1) s k ty hit hlt
          rw [HL.out] at hfree
          have HSK := Lib.hid (hC.skip (by rw [HLL.out]; exact hw2) hfree)
          have hr2 : ¬ ((Utf8.decode s k).1 : Int) = 58 := hr
          generalize (Utf8.decode s k).2 = wd at *
          generalize (Utf8.decode s k).1 = r at *
          clear hr hfree hC hR
          go_wp2
          go_roundw
          case rel => exact ⟨ps, f, k + wd, rfl, HSK.out, HRJ.out _⟩
          case measure => simp only [World.iterPos, HI.out, hit]; omega
      · have hnx : ∀ ty, (Instr.next (.pointer (some ⟨w.heap.size + 1 + 1, 0, none⟩)) true ty).run Tryd.prog wr = _ := fun ty => Lib.run_next_end_at wr (w.heap.size + 1 + 1) s k ty hit hlt
        have hks : k = l.length := by rw [HLL.out]; rw [HLL.out] at hke; omega
        subst hks
        have HC := Lib.hid hC
        have hG8 : (grpsV ps).length ≤ 8 := by rw [grpsV_length]; exact hC.many
        have HR9 := Lib.hid (rowI_length (grpsV ps) hG8)
        have hE0 : ReadE w (grpsV ps) wr := ⟨hR.1, ⟨rowI0, rfl, hR.2.1⟩, hR.2.2.2⟩
        have hlen0 := hR.lt
        have HE0 := Lib.hid hE0
        have hpe : (s.data.toList.drop f).take (s.size - f) = l.drop f := by
          rw [HL.out]
          exact List.take_of_length_le (by rw [List.length_drop, HLL.out]; exact Nat.le_refl _)
        have hfs : f ≤ s.size := by rw [← HLL.out]; exact hfk
        have hDP := fun W => dparse_any (s.extract f s.size) W (by rw [ByteArray.size_extract]; omega)
        rw [part_extract, hpe] at hDP
        have hWG := fun W => withGroup_any (grpsV ps) (s.extract f s.size) W hG8 (by rw [ByteArray.size_extract]; omega)
        rw [part_extract, hpe] at hWG
        have HWT := Lib.hid (fun (W : World) (a : Option Addr) (k cap : Nat) (ns : List Nat) (h : IsI W (.slice a k cap) (natsI ns)) (h1 : 0 < ns.length) (h2 : ns.length ≤ 8) => with_any (grpsV ps) ns a k cap W hG8 h h1 h2)
        have HD4 := Lib.hid (dotL_length (l.drop f))
        clear hE0 hC hR hpe hG8 hit
        cases last with
        | false =>
          cases hd : dotB (l.drop f) with
          | false =>
            have hDP2 := hDP
            rw [hd] at hDP2
            have HDP := Lib.hid hDP2
            have hre := HC.out.endW false HNE.out (by rw [hd]; rfl)
            obtain ⟨R, hRd⟩ : ∃ R, rdV (withG (grpsV ps) (l.drop f)) = R := ⟨_, rfl⟩
            obtain ⟨b, hbd⟩ : ∃ b, (withG (grpsV ps) (l.drop f)).isSome = b := ⟨_, rfl⟩
            have HRR : Hid (rdV (readO l false) = R ∧ (readO l false).isSome = b) := ⟨by rw [hre]; exact hRd, by rw [hre]; exact hbd⟩
            have HWL : Hid (R.length = 9) := by show R.length = 9; rw [← hRd]; exact withG_length _ _
            rw [hRd, hbd] at hWG
            have HWG := Lib.hid hWG
            clear hre hRd hbd
            generalize hDD : dotL (l.drop f) = D at *
            clear hDP hDP2 hWG hd
            go_wp2_with (first | (go_at_call 57; refine (HDP.out _).mono ?_; rintro e w2 ⟨rfl, b2⟩; refine Hid.out ?_))
            refine Lib.hid ?_
            have hE2 := HE0.out.up b2
            have hsz2 : w.heap.size + 1 + 1 < w2.heap.size := Nat.lt_of_lt_of_le hlen0 b2.size
            have hE3 := hE2.up ((Below.refl w2.heap.size w2).alloc (Nat.le_refl _) (.cells (byteVals D).toArray 45))
            have HE3 := Lib.hid hE3
            clear hE2 hE3 b2 HE0 hlen0
            go_wp2_with (first | (refine wpList_store_newT rfl (.tmp 12) (.tmp 45) rfl D (by rw [HD4.out]; exact arr4) _ rfl rfl (by rw [HD4.out]; rfl) ?_) | fail)
            refine wp_region_noPanic ?_
            refine wp_region_held_drew (S := ReadE w (grpsV ps)) (by kernel_rfl) ⟨HE3.out.1, HE3.out.2.1, HE3.out.2.2.drew⟩ (fun hHeld => ?_)
            generalize (w2.alloc (.cells (byteVals D).toArray 45)).drew = X at hHeld ⊢
            refine held_take (v := intV (rowI (grpsV ps))) 0 rfl (by kernel_rfl) (by kernel_rfl) (by kernel_rfl) (fun _ _ _ h => h) (by rfl) (fun W hSw => exec_load_intR (.tmp 6) rfl (w.heap.size + 1) (rowI (grpsV ps)) (by rw [HR9.out]; exact row9) rfl hSw.1.range) (by assumption) ?_
            simp only [List.setIfInBounds_toArray, List.set_cons_zero, List.set_cons_succ]
            refine held_take (v := ?v363) 1 rfl (by kernel_rfl) (by kernel_rfl) (by kernel_rfl) (fun _ _ _ h => h) (by rfl) ?y363 (by assumption) ?_
            case y363 => (intro w hSw; unfold ReadE at hSw; go_simp; (try with_reducible rfl); (try omega))
            simp only [List.setIfInBounds_toArray, List.set_cons_zero, List.set_cons_succ]
            refine held_take (v := ?v366) 2 rfl (by kernel_rfl) (by kernel_rfl) (by kernel_rfl) (fun _ _ _ h => h) (by rfl) ?y366 (by assumption) ?_
            case y366 => (intro w hSw; unfold ReadE at hSw; go_simp; (try with_reducible rfl); (try omega))
            simp only [List.setIfInBounds_toArray, List.set_cons_zero, List.set_cons_succ]
            refine held_take (v := ?v369) 3 rfl (by kernel_rfl) (by kernel_rfl) (by kernel_rfl) (fun _ _ _ h => h) (by rfl) ?y369 (by assumption) ?_
            case y369 => (intro w hSw; unfold ReadE at hSw; go_simp; (try with_reducible rfl); (try omega))
            simp only [List.setIfInBounds_toArray, List.set_cons_zero, List.set_cons_succ]
            refine held_one 4 rfl (by kernel_rfl) (by rfl) (fun K hK => ?_)
            go_simp
            refine (HWG.out _).mono ?_
            rintro e w3 ⟨rfl, b3⟩
            have hH3 := hHeld.up b3
            refine hK.out _ _ hH3 (fun _ => ?_)
            clear hK K b3 hHeld
            refine held_take (v := ?v379) 5 rfl (by kernel_rfl) (by kernel_rfl) (by kernel_rfl) (fun _ _ _ h => h) (by rfl) ?y379 (by assumption) ?_
            case y379 => (intro w hSw; unfold ReadE at hSw; go_simp; (try with_reducible rfl); (try omega))
            simp only [List.setIfInBounds_toArray, List.set_cons_zero, List.set_cons_succ]
            refine held_take (v := ?v382) 6 rfl (by kernel_rfl) (by kernel_rfl) (by kernel_rfl) (fun _ _ _ h => h) (by rfl) ?y382 (by assumption) ?_
            case y382 => (intro w hSw; unfold ReadE at hSw; go_simp; (try with_reducible rfl); (try omega))
            simp only [List.setIfInBounds_toArray, List.set_cons_zero, List.set_cons_succ]
            obtain ⟨R0, hR0, hI0⟩ := hH3.2.1
            refine held_none 7 rfl (by kernel_rfl) (by rfl) (fun K hK => ?_)
            refine wp_store_intT (.tmp 4) (.tmp 71) rfl w.heap.size R (by rw [HWL.out]; exact row9) R0 rfl rfl hI0 (by rw [HWL.out, hR0]) ?_
            have hH4 := hH3.setRow R HWL.out
            refine hK.out _ _ hH4 (fun _ => ?_)
            clear hK K
            simp only [Act.put]
            refine held_take (v := ?v392) 8 rfl (by kernel_rfl) (by kernel_rfl) (by kernel_rfl) (fun _ _ _ h => h) (by rfl) ?y392 (by assumption) ?_
            case y392 => (intro w hSw; unfold ReadE at hSw; go_simp; (try with_reducible rfl); (try omega))
            simp only [List.setIfInBounds_toArray, List.set_cons_zero, List.set_cons_succ]
            refine wpAnyH_done (by kernel_rfl) ?_ _
            refine NoPanic.normal ?_
            go_wp2
            exact bodyPost_ret (results_intT2 Tryd.results67 _ _ w.heap.size R (by rw [HWL.out]; exact row9) rfl (intT_setRow hI0 _)) rfl ⟨by rw [HRR.out.1, HRR.out.2]; rfl, hH4.2.2⟩
          | true =>
            have hDP2 := hDP
            rw [hd] at hDP2
            have HDP := Lib.hid hDP2
            have hre := HC.out.endW false HNE.out (by rw [hd]; rfl)
            obtain ⟨R, hRd⟩ : ∃ R, rdV (withG (grpsV ps) (l.drop f)) = R := ⟨_, rfl⟩
            obtain ⟨b, hbd⟩ : ∃ b, (withG (grpsV ps) (l.drop f)).isSome = b := ⟨_, rfl⟩
            have HRR : Hid (rdV (readO l false) = R ∧ (readO l false).isSome = b) := ⟨by rw [hre]; exact hRd, by rw [hre]; exact hbd⟩
            have HWL : Hid (R.length = 9) := by show R.length = 9; rw [← hRd]; exact withG_length _ _
            rw [hRd, hbd] at hWG
            have HWG := Lib.hid hWG
            clear hre hRd hbd
            generalize hDD : dotL (l.drop f) = D at *
            clear hDP hDP2 hWG hd
            go_wp2_with (first | (go_at_call 57; refine (HDP.out _).mono ?_; rintro e w2 ⟨rfl, b2⟩; refine Hid.out ?_))
            refine Lib.hid ?_
            have hE2 := HE0.out.up b2
            have hsz2 : w.heap.size + 1 + 1 < w2.heap.size := Nat.lt_of_lt_of_le hlen0 b2.size
            have hE3 := hE2.up ((Below.refl w2.heap.size w2).alloc (Nat.le_refl _) (.cells (byteVals D).toArray 45))
            have HE3 := Lib.hid hE3
            clear hE2 hE3 b2 HE0 hlen0
            go_wp2_with (first | (refine wpList_store_newT rfl (.tmp 12) (.tmp 45) rfl D (by rw [HD4.out]; exact arr4) _ rfl rfl (by rw [HD4.out]; rfl) ?_) | fail)
            refine wp_region_noPanic ?_
            refine wp_region_held_drew (S := ReadE w (grpsV ps)) (by kernel_rfl) ⟨HE3.out.1, HE3.out.2.1, HE3.out.2.2.drew⟩ (fun hHeld => ?_)
            generalize (w2.alloc (.cells (byteVals D).toArray 45)).drew = X at hHeld ⊢
            refine held_take (v := intV (rowI (grpsV ps))) 0 rfl (by kernel_rfl) (by kernel_rfl) (by kernel_rfl) (fun _ _ _ h => h) (by rfl) (fun W hSw => exec_load_intR (.tmp 6) rfl (w.heap.size + 1) (rowI (grpsV ps)) (by rw [HR9.out]; exact row9) rfl hSw.1.range) (by assumption) ?_
            simp only [List.setIfInBounds_toArray, List.set_cons_zero, List.set_cons_succ]
            refine held_take (v := ?v426) 1 rfl (by kernel_rfl) (by kernel_rfl) (by kernel_rfl) (fun _ _ _ h => h) (by rfl) ?y426 (by assumption) ?_
            case y426 => (intro w hSw; unfold ReadE at hSw; go_simp; (try with_reducible rfl); (try omega))
            simp only [List.setIfInBounds_toArray, List.set_cons_zero, List.set_cons_succ]
            refine held_take (v := ?v429) 2 rfl (by kernel_rfl) (by kernel_rfl) (by kernel_rfl) (fun _ _ _ h => h) (by rfl) ?y429 (by assumption) ?_
            case y429 => (intro w hSw; unfold ReadE at hSw; go_simp; (try with_reducible rfl); (try omega))
            simp only [List.setIfInBounds_toArray, List.set_cons_zero, List.set_cons_succ]
            refine held_take (v := ?v432) 3 rfl (by kernel_rfl) (by kernel_rfl) (by kernel_rfl) (fun _ _ _ h => h) (by rfl) ?y432 (by assumption) ?_
            case y432 => (intro w hSw; unfold ReadE at hSw; go_simp; (try with_reducible rfl); (try omega))
            simp only [List.setIfInBounds_toArray, List.set_cons_zero, List.set_cons_succ]
            refine held_one 4 rfl (by kernel_rfl) (by rfl) (fun K hK => ?_)
            go_simp
            refine (HWG.out _).mono ?_
            rintro e w3 ⟨rfl, b3⟩
            have hH3 := hHeld.up b3
            refine hK.out _ _ hH3 (fun _ => ?_)
            clear hK K b3 hHeld
            refine held_take (v := ?v442) 5 rfl (by kernel_rfl) (by kernel_rfl) (by kernel_rfl) (fun _ _ _ h => h) (by rfl) ?y442 (by assumption) ?_
            case y442 => (intro w hSw; unfold ReadE at hSw; go_simp; (try with_reducible rfl); (try omega))
            simp only [List.setIfInBounds_toArray, List.set_cons_zero, List.set_cons_succ]
            refine held_take (v := ?v445) 6 rfl (by kernel_rfl) (by kernel_rfl) (by kernel_rfl) (fun _ _ _ h => h) (by rfl) ?y445 (by assumption) ?_
            case y445 => (intro w hSw; unfold ReadE at hSw; go_simp; (try with_reducible rfl); (try omega))
            simp only [List.setIfInBounds_toArray, List.set_cons_zero, List.set_cons_succ]
            obtain ⟨R0, hR0, hI0⟩ := hH3.2.1
            refine held_none 7 rfl (by kernel_rfl) (by rfl) (fun K hK => ?_)
            refine wp_store_intT (.tmp 4) (.tmp 71) rfl w.heap.size R (by rw [HWL.out]; exact row9) R0 rfl rfl hI0 (by rw [HWL.out, hR0]) ?_
            have hH4 := hH3.setRow R HWL.out
            refine hK.out _ _ hH4 (fun _ => ?_)
            clear hK K
            simp only [Act.put]
            refine held_take (v := ?v455) 8 rfl (by kernel_rfl) (by kernel_rfl) (by kernel_rfl) (fun _ _ _ h => h) (by rfl) ?y455 (by assumption) ?_
            case y455 => (intro w hSw; unfold ReadE at hSw; go_simp; (try with_reducible rfl); (try omega))
            simp only [List.setIfInBounds_toArray, List.set_cons_zero, List.set_cons_succ]
            refine wpAnyH_done (by kernel_rfl) ?_ _
            refine NoPanic.normal ?_
            go_wp2
            exact bodyPost_ret (results_intT2 Tryd.results67 _ _ w.heap.size R (by rw [HWL.out]; exact row9) rfl (intT_setRow hI0 _)) rfl ⟨by rw [HRR.out.1, HRR.out.2]; rfl, hH4.2.2⟩
        | true =>
          cases hd : dotB (l.drop f) with
          | false =>
            have hDP2 := hDP
            rw [hd] at hDP2
            have HDP := Lib.hid hDP2
            have hre := HC.out.endW true HNE.out (by rw [hd]; rfl)
            obtain ⟨R, hRd⟩ : ∃ R, rdV (withG (grpsV ps) (l.drop f)) = R := ⟨_, rfl⟩
            obtain ⟨b, hbd⟩ : ∃ b, (withG (grpsV ps) (l.drop f)).isSome = b := ⟨_, rfl⟩
            have HRR : Hid (rdV (readO l true) = R ∧ (readO l true).isSome = b) := ⟨by rw [hre]; exact hRd, by rw [hre]; exact hbd⟩
            have HWL : Hid (R.length = 9) := by show R.length = 9; rw [← hRd]; exact withG_length _ _
            rw [hRd, hbd] at hWG
            have HWG := Lib.hid hWG
            clear hre hRd hbd
            generalize hDD : dotL (l.drop f) = D at *
            clear hDP hDP2 hWG hd
            go_wp2_with (first | (go_at_call 57; refine (HDP.out _).mono ?_; rintro e w2 ⟨rfl, b2⟩; refine Hid.out ?_))
            refine Lib.hid ?_
            have hE2 := HE0.out.up b2
            have hsz2 : w.heap.size + 1 + 1 < w2.heap.size := Nat.lt_of_lt_of_le hlen0 b2.size
            have hE3 := hE2.up ((Below.refl w2.heap.size w2).alloc (Nat.le_refl _) (.cells (byteVals D).toArray 45))
            have HE3 := Lib.hid hE3
            clear hE2 hE3 b2 HE0 hlen0
            go_wp2_with (first | (refine wpList_store_newT rfl (.tmp 12) (.tmp 45) rfl D (by rw [HD4.out]; exact arr4) _ rfl rfl (by rw [HD4.out]; rfl) ?_) | fail)
            refine wp_region_noPanic ?_
            refine wp_region_held_drew (S := ReadE w (grpsV ps)) (by kernel_rfl) ⟨HE3.out.1, HE3.out.2.1, HE3.out.2.2.drew⟩ (fun hHeld => ?_)
            generalize (w2.alloc (.cells (byteVals D).toArray 45)).drew = X at hHeld ⊢
            refine held_take (v := intV (rowI (grpsV ps))) 0 rfl (by kernel_rfl) (by kernel_rfl) (by kernel_rfl) (fun _ _ _ h => h) (by rfl) (fun W hSw => exec_load_intR (.tmp 6) rfl (w.heap.size + 1) (rowI (grpsV ps)) (by rw [HR9.out]; exact row9) rfl hSw.1.range) (by assumption) ?_
            simp only [List.setIfInBounds_toArray, List.set_cons_zero, List.set_cons_succ]
            refine held_take (v := ?v491) 1 rfl (by kernel_rfl) (by kernel_rfl) (by kernel_rfl) (fun _ _ _ h => h) (by rfl) ?y491 (by assumption) ?_
            case y491 => (intro w hSw; unfold ReadE at hSw; go_simp; (try with_reducible rfl); (try omega))
            simp only [List.setIfInBounds_toArray, List.set_cons_zero, List.set_cons_succ]
            refine held_take (v := ?v494) 2 rfl (by kernel_rfl) (by kernel_rfl) (by kernel_rfl) (fun _ _ _ h => h) (by rfl) ?y494 (by assumption) ?_
            case y494 => (intro w hSw; unfold ReadE at hSw; go_simp; (try with_reducible rfl); (try omega))
            simp only [List.setIfInBounds_toArray, List.set_cons_zero, List.set_cons_succ]
            refine held_take (v := ?v497) 3 rfl (by kernel_rfl) (by kernel_rfl) (by kernel_rfl) (fun _ _ _ h => h) (by rfl) ?y497 (by assumption) ?_
            case y497 => (intro w hSw; unfold ReadE at hSw; go_simp; (try with_reducible rfl); (try omega))
            simp only [List.setIfInBounds_toArray, List.set_cons_zero, List.set_cons_succ]
            refine held_one 4 rfl (by kernel_rfl) (by rfl) (fun K hK => ?_)
            go_simp
            refine (HWG.out _).mono ?_
            rintro e w3 ⟨rfl, b3⟩
            have hH3 := hHeld.up b3
            refine hK.out _ _ hH3 (fun _ => ?_)
            clear hK K b3 hHeld
            refine held_take (v := ?v507) 5 rfl (by kernel_rfl) (by kernel_rfl) (by kernel_rfl) (fun _ _ _ h => h) (by rfl) ?y507 (by assumption) ?_
            case y507 => (intro w hSw; unfold ReadE at hSw; go_simp; (try with_reducible rfl); (try omega))
            simp only [List.setIfInBounds_toArray, List.set_cons_zero, List.set_cons_succ]
            refine held_take (v := ?v510) 6 rfl (by kernel_rfl) (by kernel_rfl) (by kernel_rfl) (fun _ _ _ h => h) (by rfl) ?y510 (by assumption) ?_
            case y510 => (intro w hSw; unfold ReadE at hSw; go_simp; (try with_reducible rfl); (try omega))
            simp only [List.setIfInBounds_toArray, List.set_cons_zero, List.set_cons_succ]
            obtain ⟨R0, hR0, hI0⟩ := hH3.2.1
            refine held_none 7 rfl (by kernel_rfl) (by rfl) (fun K hK => ?_)
            refine wp_store_intT (.tmp 4) (.tmp 71) rfl w.heap.size R (by rw [HWL.out]; exact row9) R0 rfl rfl hI0 (by rw [HWL.out, hR0]) ?_
            have hH4 := hH3.setRow R HWL.out
            refine hK.out _ _ hH4 (fun _ => ?_)
            clear hK K
            simp only [Act.put]
            refine held_take (v := ?v520) 8 rfl (by kernel_rfl) (by kernel_rfl) (by kernel_rfl) (fun _ _ _ h => h) (by rfl) ?y520 (by assumption) ?_
            case y520 => (intro w hSw; unfold ReadE at hSw; go_simp; (try with_reducible rfl); (try omega))
            simp only [List.setIfInBounds_toArray, List.set_cons_zero, List.set_cons_succ]
            refine wpAnyH_done (by kernel_rfl) ?_ _
            refine NoPanic.normal ?_
            go_wp2
            exact bodyPost_ret (results_intT2 Tryd.results67 _ _ w.heap.size R (by rw [HWL.out]; exact row9) rfl (intT_setRow hI0 _)) rfl ⟨by rw [HRR.out.1, HRR.out.2]; rfl, hH4.2.2⟩
          | true =>
            have hDP2 := hDP
            rw [hd] at hDP2
            have HDP := Lib.hid hDP2
            obtain ⟨x0, x1, x2, x3, hx⟩ : ∃ x0 x1 x2 x3, dotL (l.drop f) = [x0, x1, x2, x3] := by
              have h4 := HD4.out
              generalize dotL (l.drop f) = D at h4
              match D, h4 with
              | [a, b, c, d], _ => exact ⟨a, b, c, d, rfl⟩
            have hre := HC.out.endT HNE.out hd x0 x1 x2 x3 hx
            have HP01 := Lib.hid (fun W => pair_any x0 x1 W)
            have HP23 := Lib.hid (fun W => pair_any x2 x3 W)
            generalize x0.toNat * 256 + x1.toNat = n0 at *
            generalize x2.toNat * 256 + x3.toNat = n1 at *
            have HW2 := Lib.hid (fun (W : World) (a : Option Addr) (k cap : Nat) (h : IsI W (.slice a k cap) (natsI [n0, n1])) => HWT.out W a k cap [n0, n1] h (by simp) (by simp))
            obtain ⟨R, hRd⟩ : ∃ R, rdV (withO (grpsV ps) [n0, n1]) = R := ⟨_, rfl⟩
            obtain ⟨b, hbd⟩ : ∃ b, (withO (grpsV ps) [n0, n1]).isSome = b := ⟨_, rfl⟩
            have HRR : Hid (rdV (readO l true) = R ∧ (readO l true).isSome = b) := ⟨by rw [hre]; exact hRd, by rw [hre]; exact hbd⟩
            have HWL : Hid (R.length = 9) := by show R.length = 9; rw [← hRd]; exact withO_length _ _
            rw [hRd, hbd] at HW2
            clear hre hRd hbd HWT
            have HX := Lib.hid hx
            clear hx
            generalize dotL (l.drop f) = D at *
            clear hDP hDP2 hWG hd
            go_wp2_with (first | (go_at_call 57; refine (HDP.out _).mono ?_; rintro e w2 ⟨rfl, b2⟩; refine Hid.out ?_))
            refine Lib.hid ?_
            have hE2 := HE0.out.up b2
            have hsz2 : w.heap.size + 1 + 1 < w2.heap.size := Nat.lt_of_lt_of_le hlen0 b2.size
            have hE3 := hE2.up ((Below.refl w2.heap.size w2).alloc (Nat.le_refl _) (.cells (byteVals D).toArray 45))
            have HE3 := Lib.hid hE3
            clear hE2 hE3 b2 HE0 hlen0
            go_wp2_with (first | (refine wpList_store_newT rfl (.tmp 12) (.tmp 45) rfl D (by rw [HD4.out]; exact arr4) _ rfl rfl (by rw [HD4.out]; rfl) ?_) | fail)
            have hA3 : ArrT 45 (w2.alloc (.cells (byteVals D).toArray 45)) w2.heap.size D := arrT_new w2 D
            have hD0 : ReadD w (grpsV ps) w2.heap.size x0 x1 x2 x3 (w2.alloc (.cells (byteVals D).toArray 45)).drew := by
              rw [HX.out] at HE3 hA3 ⊢
              exact ⟨⟨HE3.out.1, HE3.out.2.1, HE3.out.2.2.drew⟩, hA3.cell 0 (by simp), hA3.cell 1 (by simp), hA3.cell 2 (by simp), hA3.cell 3 (by simp), hA3.lt, by omega⟩
            refine wp_region_noPanic ?_
            refine wp_region_held_drew (S := ReadD w (grpsV ps) w2.heap.size x0 x1 x2 x3) (by kernel_rfl) hD0 (fun hHeld => ?_)
            clear hD0 hA3 HE3
            generalize (w2.alloc (.cells (byteVals D).toArray 45)).drew = X at hHeld ⊢
            generalize w2.heap.size = B at hHeld ⊢
            refine held_take (v := intV (rowI (grpsV ps))) 0 rfl (by kernel_rfl) (by kernel_rfl) (by kernel_rfl) (fun _ _ _ h => h) (by rfl) (fun W hSw => exec_load_intR (.tmp 6) rfl (w.heap.size + 1) (rowI (grpsV ps)) (by rw [HR9.out]; exact row9) rfl hSw.1.1.range) (by assumption) ?_
            simp only [List.setIfInBounds_toArray, List.set_cons_zero, List.set_cons_succ]
            refine held_take (v := ?v571) 1 rfl (by kernel_rfl) (by kernel_rfl) (by kernel_rfl) (fun _ _ _ h => h) (by rfl) ?y571 (by assumption) ?_
            case y571 => (intro w hSw; unfold ReadD at hSw; go_simp; (try with_reducible rfl); (try omega))
            simp only [List.setIfInBounds_toArray, List.set_cons_zero, List.set_cons_succ]
            refine held_take (v := ?v574) 2 rfl (by kernel_rfl) (by kernel_rfl) (by kernel_rfl) (fun _ _ _ h => h) (by rfl) ?y574 (by assumption) ?_
            case y574 => (intro w hSw; unfold ReadD at hSw; go_simp; (try with_reducible rfl); (try omega))
            simp only [List.setIfInBounds_toArray, List.set_cons_zero, List.set_cons_succ]
            refine held_take (v := ?v577) 3 rfl (by kernel_rfl) (by kernel_rfl) (by kernel_rfl) (fun _ _ _ h => h) (by rfl) ?y577 (by assumption) ?_
            case y577 => (intro w hSw; unfold ReadD at hSw; go_simp; (try with_reducible rfl); (try omega))
            simp only [List.setIfInBounds_toArray, List.set_cons_zero, List.set_cons_succ]
            refine held_take (v := ?v580) 4 rfl (by kernel_rfl) (by kernel_rfl) (by kernel_rfl) (fun _ _ _ h => h) (by rfl) ?y580 (by assumption) ?_
            case y580 => (intro w hSw; unfold ReadD at hSw; go_simp; (try with_reducible rfl); (try omega))
            simp only [List.setIfInBounds_toArray, List.set_cons_zero, List.set_cons_succ]
            refine held_take (v := ?v583) 6 rfl (by kernel_rfl) (by kernel_rfl) (by kernel_rfl) (fun _ _ _ h => h) (by rfl) ?y583 (by assumption) ?_
            case y583 => (intro w hSw; unfold ReadD at hSw; go_simp; (try with_reducible rfl); (try omega))
            simp only [List.setIfInBounds_toArray, List.set_cons_zero, List.set_cons_succ]
            refine held_take (v := ?v586) 7 rfl (by kernel_rfl) (by kernel_rfl) (by kernel_rfl) (fun _ _ _ h => h) (by rfl) ?y586 (by assumption) ?_
            case y586 => (intro w hSw; unfold ReadD at hSw; go_simp; (try with_reducible rfl); (try omega))
            simp only [List.setIfInBounds_toArray, List.set_cons_zero, List.set_cons_succ]
            refine held_take (v := ?v589) 8 rfl (by kernel_rfl) (by kernel_rfl) (by kernel_rfl) (fun _ _ _ h => h) (by rfl) ?y589 (by assumption) ?_
            case y589 => (intro w hSw; unfold ReadD at hSw; go_simp; (try with_reducible rfl); (try omega))
            simp only [List.setIfInBounds_toArray, List.set_cons_zero, List.set_cons_succ]
            refine held_take (v := ?v592) 9 rfl (by kernel_rfl) (by kernel_rfl) (by kernel_rfl) (fun _ _ _ h => h) (by rfl) ?y592 (by assumption) ?_
            case y592 => (intro w hSw; unfold ReadD at hSw; go_simp; (try with_reducible rfl); (try omega))
            simp only [List.setIfInBounds_toArray, List.set_cons_zero, List.set_cons_succ]
            refine held_one 5 rfl (by kernel_rfl) (by rfl) (fun K hK => ?_)
            go_simp
            refine (HP01.out _).mono ?_
            rintro e w' ⟨rfl, rfl⟩
            refine hK.out _ _ hHeld (fun _ => ?_)
            clear hK K
            refine held_one 10 rfl (by kernel_rfl) (by rfl) (fun K hK => ?_)
            go_simp
            refine (HP23.out _).mono ?_
            rintro e w' ⟨rfl, rfl⟩
            refine hK.out _ _ hHeld (fun _ => ?_)
            clear hK K
            refine held_one 11 rfl (by kernel_rfl) (by rfl) (fun K hK => ?_)
            go_simp
            have hH1 := hHeld.up ((Below.refl X.heap.size X).alloc (Nat.le_refl _) (.cells #[.int .i64 (n0 : Int), .int .i64 (n1 : Int)] 3))
            refine hK.out _ _ hH1 (fun _ => ?_)
            clear hK K
            refine held_one 12 rfl (by kernel_rfl) (by rfl) (fun K hK => ?_)
            go_simp
            refine (HW2.out _ _ _ _ (isI_built X (natsI [n0, n1]) _ rfl (by simp [natsI]))).mono ?_
            rintro e w3 ⟨rfl, b3⟩
            have hH3 := hH1.up b3
            refine hK.out _ _ hH3 (fun _ => ?_)
            clear hK K b3 hHeld hH1
            refine held_take (v := ?v619) 13 rfl (by kernel_rfl) (by kernel_rfl) (by kernel_rfl) (fun _ _ _ h => h) (by rfl) ?y619 (by assumption) ?_
            case y619 => (intro w hSw; unfold ReadD at hSw; go_simp; (try with_reducible rfl); (try omega))
            simp only [List.setIfInBounds_toArray, List.set_cons_zero, List.set_cons_succ]
            refine held_take (v := ?v622) 14 rfl (by kernel_rfl) (by kernel_rfl) (by kernel_rfl) (fun _ _ _ h => h) (by rfl) ?y622 (by assumption) ?_
            case y622 => (intro w hSw; unfold ReadD at hSw; go_simp; (try with_reducible rfl); (try omega))
            simp only [List.setIfInBounds_toArray, List.set_cons_zero, List.set_cons_succ]
            obtain ⟨R0, hR0, hI0⟩ := hH3.1.2.1
            refine held_none 15 rfl (by kernel_rfl) (by rfl) (fun K hK => ?_)
            refine wp_store_intT (.tmp 4) (.tmp 64) rfl w.heap.size R (by rw [HWL.out]; exact row9) R0 rfl rfl hI0 (by rw [HWL.out, hR0]) ?_
            have hH4 := hH3.setRow R HWL.out
            refine hK.out _ _ hH4 (fun _ => ?_)
            clear hK K
            simp only [Act.put]
            refine held_take (v := ?v632) 16 rfl (by kernel_rfl) (by kernel_rfl) (by kernel_rfl) (fun _ _ _ h => h) (by rfl) ?y632 (by assumption) ?_
            case y632 => (intro w hSw; unfold ReadD at hSw; go_simp; (try with_reducible rfl); (try omega))
            simp only [List.setIfInBounds_toArray, List.set_cons_zero, List.set_cons_succ]
            refine wpAnyH_done (by kernel_rfl) ?_ _
            refine NoPanic.normal ?_
            go_wp2
            exact bodyPost_ret (results_intT2 Tryd.results67 _ _ w.heap.size R (by rw [HWL.out]; exact row9) rfl (intT_setRow hI0 _)) rfl ⟨by rw [HRR.out.1, HRR.out.2]; rfl, hH4.1.2.2⟩
end Go.Proofs.YtlbgmpjeckigjaaDoor

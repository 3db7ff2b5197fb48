/- Parse of package dotted. Proved: what it returns. -/
import Derived.Test.YtlbgmpjeckigjaaDoorDot2
namespace Go.Proofs.YtlbgmpjeckigjaaDoor
open Go Go.RowKit

theorem zero4 : (#[.int .u8 0, .int .u8 0, .int .u8 0, .int .u8 0] : Array Value) = (byteVals [0, 0, 0, 0]).toArray := rfl
/-- How far a text is told: the parts that are behind, where the next one begins, where it is. -/
structure DotAt (l : List UInt8) (ps : List (List UInt8)) (f k : Nat) : Prop where
  le : f ≤ k
  end' : k ≤ l.length
  many : ps.length ≤ 3
  good : ps.all (fun p => numB p 255) = true
  parts : splitF 46 [] l = ps ++ splitF 46 ((l.drop f).take (k - f)) (l.drop k)
theorem dotAt_zero (l : List UInt8) : DotAt l [] 0 0 := ⟨Nat.le_refl _, Nat.zero_le _, by simp, rfl, by simp⟩
theorem DotAt.skip {l : List UInt8} {ps : List (List UInt8)} {f k n : Nat} (h : DotAt l ps f k) (hn : k + n ≤ l.length) (hf : ∀ b ∈ (l.drop k).take n, b ≠ 46) : DotAt l ps f (k + n) := by
  refine ⟨by have := h.le; omega, hn, h.many, h.good, ?_⟩
  rw [h.parts]
  congr 1
  have e : l.drop k = (l.drop k).take n ++ l.drop (k + n) := by
    rw [← List.drop_drop, List.take_append_drop]
  have e2 : (l.drop f).take (k + n - f) = (l.drop f).take (k - f) ++ (l.drop k).take n := by
    have := h.le
    rw [show k + n - f = (k - f) + n by omega, List.take_add, List.drop_drop, show f + (k - f) = k by omega]
  rw [e2]
  conv => lhs; rw [e]
  exact splitF_part 46 _ _ _ hf
theorem drop_sign {l : List UInt8} {k : Nat} (hk : k < l.length) (hb : byteAt l k = 46) : l.drop k = 46 :: l.drop (k + 1) := by
  rw [List.drop_eq_getElem_cons hk]
  congr 1
  unfold byteAt at hb
  rw [List.getD, List.getElem?_eq_getElem hk] at hb
  exact UInt8.toNat_inj.1 (by simp at hb; exact Int.ofNat_inj.1 hb)
theorem DotAt.point {l : List UInt8} {ps : List (List UInt8)} {f k : Nat} (h : DotAt l ps f k) (hk : k < l.length) (hb : byteAt l k = 46) :
    splitF 46 [] l = ps ++ ((l.drop f).take (k - f)) :: splitF 46 [] (l.drop (k + 1)) := by
  rw [h.parts, drop_sign hk hb, splitF_sign]
theorem DotAt.next {l : List UInt8} {ps : List (List UInt8)} {f k : Nat} (h : DotAt l ps f k) (hk : k < l.length) (hb : byteAt l k = 46) (hp : ps.length ≠ 3) (hg : numB ((l.drop f).take (k - f)) 255 = true) :
    DotAt l (ps ++ [(l.drop f).take (k - f)]) (k + 1) (k + 1) := by
  refine ⟨Nat.le_refl _, by omega, by have := h.many; simp; omega, by simp only [List.all_append, h.good, hg, List.all_cons, List.all_nil, Bool.and_true], ?_⟩
  rw [h.point hk hb]
  simp
theorem DotAt.five {l : List UInt8} {ps : List (List UInt8)} {f k : Nat} (h : DotAt l ps f k) (hk : k < l.length) (hb : byteAt l k = 46) (hp : ps.length = 3) : dotB l = false := by
  refine dot_many (h.point hk hb) ?_
  have := splitF_ne 46 (l.drop (k + 1)) []
  have : 0 < (splitF 46 [] (l.drop (k + 1))).length := List.length_pos_iff.2 this
  simp [hp]
  omega
theorem DotAt.last {l : List UInt8} {ps : List (List UInt8)} {f : Nat} (h : DotAt l ps f l.length) : splitF 46 [] l = ps ++ [l.drop f] := by
  rw [h.parts, List.drop_length]
  have : (l.drop f).take (l.length - f) = l.drop f := List.take_of_length_le (by simp)
  rw [this, splitF]
theorem part_extract (s : ByteArray) (f k : Nat) : (s.extract f k).data.toList = (s.data.toList.drop f).take (k - f) := by
  rw [ByteArray.data_extract, Array.toList_extract]
set_option maxRecDepth 100000 in
set_option maxHeartbeats 4000000 in
theorem dparse_any (s : ByteArray) (w : World) (hs : s.size ≤ 1000000) :
    Calls Tryd.prog 57 #[.string s] w fun r w' => r = .returned (.tuple #[arrV (dotL s.data.toList), .bool (dotB s.data.toList)]) ∧ Below w.heap.size w w' := by
  generalize hl : s.data.toList = l at *
  have hll : l.length = s.size := by rw [← hl]; rfl
  have z0 : ArrT 45 ((w.alloc (.cells (byteVals [0, 0, 0, 0]).toArray 45)).alloc (.cells (byteVals [0, 0, 0, 0]).toArray 45)) w.heap.size [0, 0, 0, 0] := (Below.heap_alloc _ _ _ (by simp)).trans (heap_alloc_new w _)
  have z1 : ArrT 45 ((w.alloc (.cells (byteVals [0, 0, 0, 0]).toArray 45)).alloc (.cells (byteVals [0, 0, 0, 0]).toArray 45)) (w.heap.size + 1) (fillD []) := by
    have := heap_alloc_new (w.alloc (.cells (byteVals [0, 0, 0, 0]).toArray 45)) (.cells (byteVals [0, 0, 0, 0]).toArray 45)
    rwa [World.size_alloc] at this
  have zb : Below w.heap.size w ((w.alloc (.cells (byteVals [0, 0, 0, 0]).toArray 45)).alloc (.cells (byteVals [0, 0, 0, 0]).toArray 45)) := ((Below.refl _ _).alloc (Nat.le_refl _) _).alloc (by simp) _
  have zs : ((w.alloc (.cells (byteVals [0, 0, 0, 0]).toArray 45)).alloc (.cells (byteVals [0, 0, 0, 0]).toArray 45)).heap.size = w.heap.size + 1 + 1 := by simp
  rw [← zero4] at z0 z1 zb zs
  generalize hW : ((w.alloc (.cells #[.int .u8 0, .int .u8 0, .int .u8 0, .int .u8 0] 45)).alloc (.cells #[.int .u8 0, .int .u8 0, .int .u8 0, .int .u8 0] 45)) = W at z0 z1 zb zs
  have yi : (W.iter s 0).heap[w.heap.size + 1 + 1]? = some (.stringIter s 0) := by rw [← zs]; exact World.iter_heap _ _ _
  have yb : Below W.heap.size W (W.iter s 0) := (Below.refl _ _).alloc (Nat.le_refl _) _
  have Z : Hid (ArrT 45 (W.iter s 0) w.heap.size [0, 0, 0, 0] ∧ ArrT 45 (W.iter s 0) (w.heap.size + 1) (fillD []) ∧ Below w.heap.size w (W.iter s 0) ∧ (W.iter s 0).heap[w.heap.size + 1 + 1]? = some (.stringIter s 0)) := ⟨z0.up yb, z1.up yb, below_up zb yb zb.size, yi⟩
  have HL := Lib.hid hl
  have HLL := Lib.hid hll
  rw [← hW] at Z
  clear hW z0 z1 zb zs yi yb hl hll
  clear W
  go_enter Tryd.func57, Tryd.ntmps57
  go_wp2
  go_loopw [5, 6] (fun p q wr => ∃ (ps : List (List UInt8)) (f k : Nat), p = .int .i64 (ps.length : Int) ∧ q = .int .i64 (f : Int) ∧ DotAt l ps f k ∧ wr.heap[w.heap.size + 1 + 1]? = some (.stringIter s k) ∧ ArrT 45 wr (w.heap.size + 1) (fillD ps) ∧ ArrT 45 wr w.heap.size [0, 0, 0, 0] ∧ Below w.heap.size w wr) (fun _ _ wr => s.size - wr.iterPos (w.heap.size + 1 + 1))
  case atStart => exact ⟨[], 0, 0, rfl, rfl, dotAt_zero l, Z.out.2.2.2, Z.out.2.1, Z.out.1, Z.out.2.2.1⟩
  case round =>
    obtain ⟨ps, f, k, rfl, rfl, hD, hit, hA, hB, hb⟩ := hrel
    clear Z
    have hfk := hD.le
    have hke := hD.end'
    have hmany := hD.many
    by_cases hlt : k < s.size
    · have hkl : k < l.length := by rw [HLL.out]; exact hlt
      have HI := Lib.hid (fun j => Lib.iterAt_heap wr (w.heap.size + 1 + 1) s k j hit)
      have HB2 := Lib.hid (fun j => Lib.below_iterAt hb (k := w.heap.size + 1 + 1) (by omega) s j)
      have HA2 := Lib.hid (fun j => hA.iterAt (k := w.heap.size + 1 + 1) (by omega) s j)
      have HZ2 := Lib.hid (fun j => hB.iterAt (k := w.heap.size + 1 + 1) (by omega) s j)
      have HD := Lib.hid hD
      by_cases hp : byteAt l k = 46
      · have hsk : (s[k].toNat : Int) = 46 := by rw [str_at s k hlt, HL.out, hp]
        have hnx : ∀ ty, (Instr.next (.pointer (some ⟨w.heap.size + 1 + 1, 0, none⟩)) true ty).run Tryd.prog wr = .ok (.tuple #[.bool true, .int .i64 k, .int .i32 46]) (wr.iterAt (w.heap.size + 1 + 1) s (k + 1)) := fun ty => by
          rw [Lib.run_next_ascii_at wr (w.heap.size + 1 + 1) s k ty hit hlt (by omega), hsk]
        clear hsk hA hB hb hD
        have HN := Lib.hid (fun W => number_any (s.extract f k) 255 W (by rw [ByteArray.size_extract]; omega) (by omega) (by omega))
        rw [part_extract, HL.out] at HN
        by_cases hn : numB ((l.drop f).take (k - f)) 255 = true
        · have hv := valB_num hn
          rw [hn, hv] at HN
          have hv1 := UInt8.toNat_lt (valB ((l.drop f).take (k - f)))
          by_cases h3 : ps.length = 3
          · have hno := HD.out.five hkl hp h3
            have HNO := Lib.hid hno
            have h3' : (ps.length : Int) = 3 := by omega
            clear hno hv hn
            generalize (valB ((l.drop f).take (k - f))).toNat = v at *
            go_wp2_with (first | (go_at_call 42; refine (HN.out _).mono ?_; rintro e w2 ⟨rfl, bb⟩) | (refine wpList_store_arrT rfl (.tmp 2) (.tmp 35) rfl w.heap.size [0, 0, 0, 0] arr4 [0, 0, 0, 0] rfl rfl ((HZ2.out _).up bb) rfl ?_))
            exact bodyPost_ret (results_arrT2 Tryd.results57 _ _ w.heap.size [0, 0, 0, 0] arr4 rfl (arrT_setRow ((HZ2.out _).up bb) _)) rfl ⟨by rw [HNO.out, dotL_no HNO.out]; rfl, below_setRow (below_up (HB2.out _) bb (HB2.out _).size) (Nat.le_refl _) _⟩
          · have hnx2 := HD.out.next hkl hp h3 hn
            have hset := fillD_set ps ((l.drop f).take (k - f)) (by omega)
            have h3' : ¬ (ps.length : Int) = 3 := by omega
            have HNX := Lib.hid hnx2
            have HSET := Lib.hid hset
            clear hnx2 hset hv hn
            generalize (l.drop f).take (k - f) = P at *
            generalize hV : (valB P).toNat = v at *
            go_wp2_with (first | (go_at_call 42; refine (HN.out _).mono ?_; rintro e w2 ⟨rfl, bb⟩; refine Hid.out ?_))
            refine Lib.hid ?_
            have hA3 := (HA2.out (k + 1)).up bb
            have hB3 := (HZ2.out (k + 1)).up bb
            have hb3 := below_up (HB2.out (k + 1)) bb (HB2.out (k + 1)).size
            have hi3 : w2.heap[w.heap.size + 1 + 1]? = some (.stringIter s (k + 1)) := by
              rw [bb.block _ (Array.getElem?_eq_some_iff.1 (HI.out (k + 1))).1]
              exact HI.out _
            have hcell := hA3.cell ps.length (by rw [fillD_length ps (by omega)]; omega)
            have hfr := hA3.frozen ps.length
            have hst := hA3.store ps.length (v : Int) (valB P) (by rw [hV])
            rw [HSET.out] at hst
            have HS := Lib.hid hst
            have HR : Hid (∀ x : Value, (w2.setCell ⟨w.heap.size + 1, ps.length, none⟩ x).heap[w.heap.size + 1 + 1]? = some (.stringIter s (k + 1)) ∧ ArrT 45 (w2.setCell ⟨w.heap.size + 1, ps.length, none⟩ x) w.heap.size [0, 0, 0, 0] ∧ Below w.heap.size w (w2.setCell ⟨w.heap.size + 1, ps.length, none⟩ x)) := fun x =>
              ⟨(Below.heap_setCell w2 _ x _ (by simp)).trans hi3, hB3.setOther (by omega) _ _, hb3.setCell (by simp) _⟩
            clear hst hA3 hB3 hb3 hi3 bb HI HA2 HZ2 HB2
            go_wp2
            go_roundw
            case rel => exact ⟨_, k + 1, k + 1, by simp, by go_num, HNX.out, (HR.out _).1, HS.out, (HR.out _).2.1, (HR.out _).2.2⟩
            case measure => simp only [World.iterPos, (HR.out _).1, hit]; omega
        · have hn' : numB ((l.drop f).take (k - f)) 255 = false := by simpa using hn
          have HNO := Lib.hid (dot_bad (HD.out.point hkl hp) hn')
          rw [hn', numV_no hn'] at HN
          clear hn hn'
          go_wp2_with (first | (go_at_call 42; refine (HN.out _).mono ?_; rintro e w2 ⟨rfl, bb⟩) | (refine wpList_store_arrT rfl (.tmp 2) (.tmp 35) rfl w.heap.size [0, 0, 0, 0] arr4 [0, 0, 0, 0] rfl rfl ((HZ2.out _).up bb) rfl ?_))
          exact bodyPost_ret (results_arrT2 Tryd.results57 _ _ w.heap.size [0, 0, 0, 0] arr4 rfl (arrT_setRow ((HZ2.out _).up bb) _)) rfl ⟨by rw [HNO.out, dotL_no HNO.out]; rfl, below_setRow (below_up (HB2.out _) bb (HB2.out _).size) (Nat.le_refl _) _⟩
      · obtain ⟨hr, hw1, hw2, hfree⟩ := rune_free s k hlt 46 (by decide) (by rw [HL.out]; exact hp)
        have hle := decode_le s k
        have hnx : ∀ ty, (Instr.next (.pointer (some ⟨w.heap.size + 1 + 1, 0, none⟩)) true ty).run Tryd.prog wr = .ok (.tuple #[.bool true, .int .i64 k, .int .i32 (Utf8.decode s k).1]) (wr.iterAt (w.heap.size + 1 + 1) s (k + (Utf8.decode s k).2)) := fun ty =>
          Lib.run_next_any_at wr (w.heap.size + 1 + 1) s k ty hit hlt
        rw [HL.out] at hfree
        have HSK := Lib.hid (hD.skip (by rw [HLL.out]; exact hw2) hfree)
        have hr2 : ¬ ((Utf8.decode s k).1 : Int) = 46 := hr
        generalize (Utf8.decode s k).2 = wd at *
        generalize (Utf8.decode s k).1 = r at *
        clear hr hfree hA hB hb hD
        go_wp2
        go_roundw
        case rel => exact ⟨ps, f, k + wd, rfl, rfl, HSK.out, HI.out _, HA2.out _, HZ2.out _, HB2.out _⟩
        case measure => simp only [World.iterPos, HI.out, hit]; omega
    · have hnx : ∀ ty, (Instr.next (.pointer (some ⟨w.heap.size + 1 + 1, 0, none⟩)) true ty).run Tryd.prog wr = _ := fun ty => Lib.run_next_end_at wr (w.heap.size + 1 + 1) s k ty hit hlt
      have hks : k = l.length := by rw [HLL.out]; rw [HLL.out] at hke; omega
      subst hks
      have hlast := hD.last
      have HA := Lib.hid hA
      have HZ := Lib.hid hB
      have HB := Lib.hid hb
      have HG := Lib.hid hD.good
      have HN := Lib.hid (fun W => number_any (s.extract f s.size) 255 W (by rw [ByteArray.size_extract]; omega) (by omega) (by omega))
      have hpe : (s.data.toList.drop f).take (s.size - f) = l.drop f := by
        rw [HL.out]
        exact List.take_of_length_le (by rw [List.length_drop, HLL.out]; exact Nat.le_refl _)
      rw [part_extract, hpe] at HN
      have hfs : f ≤ s.size := by rw [← HLL.out]; exact hfk
      clear hA hB hb hD hpe hit
      by_cases hn : numB (l.drop f) 255 = true
      · have hv := valB_num hn
        rw [hn, hv] at HN
        have hv1 := UInt8.toNat_lt (valB (l.drop f))
        by_cases h3 : ps.length = 3
        · have hgood := dot_good hlast (by simp [h3]) (by rw [List.all_append, HG.out, List.all_cons, hn]; rfl)
          have HGD := Lib.hid hgood
          have hset := fillD_set ps (l.drop f) (by omega)
          rw [h3] at hset
          have HSET := Lib.hid hset
          have h3' : (ps.length : Int) = 3 := by omega
          clear hgood hset hv hn hlast
          generalize l.drop f = P at *
          generalize hV : (valB P).toNat = v at *
          go_wp2_with (first | (go_at_call 42; refine (HN.out _).mono ?_; rintro e w2 ⟨rfl, bb⟩; refine Hid.out ?_))
          refine Lib.hid ?_
          have hA3 := HA.out.up bb
          have hB3 := HZ.out.up bb
          have hb3 := below_up HB.out bb HB.out.size
          have hcell := hA3.cell 3 (by rw [fillD_length ps (by omega)]; omega)
          have hfr := hA3.frozen 3
          have hst := hA3.store 3 (v : Int) (valB P) (by rw [hV])
          rw [HSET.out] at hst
          have HS := Lib.hid hst
          have HR : Hid (∀ x : Value, ArrT 45 (w2.setCell ⟨w.heap.size + 1, 3, none⟩ x) w.heap.size [0, 0, 0, 0] ∧ Below w.heap.size w (w2.setCell ⟨w.heap.size + 1, 3, none⟩ x)) := fun x =>
            ⟨hB3.setOther (by omega) _ _, hb3.setCell (by simp) _⟩
          have hfl : (fillD (ps ++ [P])).length = 4 := fillD_length _ (by simp [h3])
          have HF := Lib.hid hfl
          clear hst hA3 hB3 hb3 bb HA HZ HB hfl
          generalize fillD (ps ++ [P]) = F at *
          go_wp2_with (first | (refine wpList_load_arrT rfl (.tmp 4) rfl (w.heap.size + 1) F (by rw [HF.out]; exact arr4) rfl HS.out ?_) | (refine wpList_store_arrT rfl (.tmp 2) (.tmp 61) rfl w.heap.size F (by rw [HF.out]; exact arr4) [0, 0, 0, 0] rfl rfl (HR.out _).1 HF.out.symm ?_))
          exact bodyPost_ret (results_arrT2 Tryd.results57 _ _ w.heap.size F (by rw [HF.out]; exact arr4) rfl (arrT_setRow (HR.out _).1 _)) rfl ⟨by rw [HGD.out.1, HGD.out.2]; rfl, below_setRow (HR.out _).2 (Nat.le_refl _) _⟩
        · have HNO := Lib.hid (dot_many hlast (by simp; omega))
          have h3' : ¬ (ps.length : Int) = 3 := by omega
          clear hv hn hlast
          generalize l.drop f = P at *
          generalize (valB P).toNat = v at *
          go_wp2_with (first | (go_at_call 42; refine (HN.out _).mono ?_; rintro e w2 ⟨rfl, bb⟩) | (refine wpList_store_arrT rfl (.tmp 2) (.tmp 57) rfl w.heap.size [0, 0, 0, 0] arr4 [0, 0, 0, 0] rfl rfl (HZ.out.up bb) rfl ?_))
          exact bodyPost_ret (results_arrT2 Tryd.results57 _ _ w.heap.size [0, 0, 0, 0] arr4 rfl (arrT_setRow (HZ.out.up bb) _)) rfl ⟨by rw [HNO.out, dotL_no HNO.out]; rfl, below_setRow (below_up HB.out bb HB.out.size) (Nat.le_refl _) _⟩
      · have hn' : numB (l.drop f) 255 = false := by simpa using hn
        have HNO := Lib.hid (dot_bad hlast hn')
        rw [hn', numV_no hn'] at HN
        clear hn hn' hlast
        go_wp2_with (first | (go_at_call 42; refine (HN.out _).mono ?_; rintro e w2 ⟨rfl, bb⟩) | (refine wpList_store_arrT rfl (.tmp 2) (.tmp 57) rfl w.heap.size [0, 0, 0, 0] arr4 [0, 0, 0, 0] rfl rfl (HZ.out.up bb) rfl ?_))
        exact bodyPost_ret (results_arrT2 Tryd.results57 _ _ w.heap.size [0, 0, 0, 0] arr4 rfl (arrT_setRow (HZ.out.up bb) _)) rfl ⟨by rw [HNO.out, dotL_no HNO.out]; rfl, below_setRow (below_up HB.out bb HB.out.size) (Nat.le_refl _) _⟩
end Go.Proofs.YtlbgmpjeckigjaaDoor

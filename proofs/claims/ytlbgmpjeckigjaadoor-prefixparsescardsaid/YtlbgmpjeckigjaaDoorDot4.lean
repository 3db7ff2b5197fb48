/- The document's Parse of layer 6. Proved: what it returns. -/
import Derived.Test.YtlbgmpjeckigjaaDoorDot3
import Derived.Test.YtlbgmpjeckigjaaDoorRef
namespace Go.Proofs.YtlbgmpjeckigjaaDoor
open Go Go.RowKit

/-- How far the document's text is told. -/
structure DotR (l : List UInt8) (ps : List (List UInt8)) (cur : List UInt8) (i : Nat) : Prop where
  le : i ≤ l.length + 1
  many : ps.length ≤ 4
  short : cur.length ≤ i
  good : ps.all (fun p => numB p 255) = true
  parts : i ≤ l.length → splitF 46 [] l = ps ++ splitF 46 cur (l.drop i)
  done : i = l.length + 1 → splitF 46 [] l = ps
theorem dotR_zero (l : List UInt8) : DotR l [] [] 0 := ⟨by omega, by simp, by simp, rfl, fun _ => by simp, fun h => by omega⟩
theorem DotR.byte {l : List UInt8} {ps : List (List UInt8)} {cur : List UInt8} {i : Nat} (h : DotR l ps cur i) (hi : i < l.length) (hb : byteAt l i ≠ 46) : DotR l ps (cur ++ [l.getD i 0]) (i + 1) := by
  refine ⟨by omega, h.many, by have := h.short; simp; omega, h.good, fun _ => ?_, fun e => by omega⟩
  rw [h.parts (by omega), List.drop_eq_getElem_cons hi]
  have e : l[i] = l.getD i 0 := by simp [List.getD, hi]
  rw [e, splitF_byte]
  intro e2
  refine hb ?_
  unfold byteAt
  rw [e2]
  rfl
/-- A part ends here. -/
def restD (l : List UInt8) (i : Nat) : List (List UInt8) := if i < l.length then splitF 46 [] (l.drop (i + 1)) else []
theorem DotR.part {l : List UInt8} {ps : List (List UInt8)} {cur : List UInt8} {i : Nat} (h : DotR l ps cur i) (hi : i ≤ l.length) (hb : i < l.length → byteAt l i = 46) : splitF 46 [] l = ps ++ cur :: restD l i := by
  unfold restD
  rw [h.parts hi]
  split
  · rename_i hlt
    rw [drop_sign hlt (hb hlt), splitF_sign]
  · rw [show i = l.length by omega, List.drop_length, splitF]
theorem DotR.next {l : List UInt8} {ps : List (List UInt8)} {cur : List UInt8} {i : Nat} (h : DotR l ps cur i) (hi : i ≤ l.length) (hb : i < l.length → byteAt l i = 46) (hp : ps.length ≠ 4) (hg : numB cur 255 = true) :
    DotR l (ps ++ [cur]) [] (i + 1) := by
  have hs := h.part hi hb
  refine ⟨by omega, by have := h.many; simp; omega, by simp, by simp only [List.all_append, h.good, hg, List.all_cons, List.all_nil, Bool.and_true], fun hlt => ?_, fun e => ?_⟩
  · rw [hs, restD, if_pos (by omega)]
    simp
  · rw [hs, restD, if_neg (by omega)]
theorem DotR.five {l : List UInt8} {ps : List (List UInt8)} {cur : List UInt8} {i : Nat} (h : DotR l ps cur i) (hi : i ≤ l.length) (hb : i < l.length → byteAt l i = 46) (hp : ps.length = 4) : dotB l = false := by
  refine dot_many (h.part hi hb) ?_
  simp [hp]
set_option maxRecDepth 100000 in
set_option maxHeartbeats 4000000 in
theorem rdparse_any (s : ByteArray) (w : World) (hs : s.size ≤ 500000) :
    Calls Tryd.prog 44 #[.string s] w fun r w' => r = .returned (.tuple #[arrV (dotL s.data.toList), .bool (dotB s.data.toList)]) ∧ Below w.heap.size w w' := by
  generalize hl : s.data.toList = l at *
  have hll : l.length = s.size := by rw [← hl]; rfl
  have hbs : ∀ k (h : k < s.size), (s[k].toNat : Int) = byteAt l k := fun k h => by rw [← hl]; exact str_at s k h
  have z0 : ArrT 45 ((w.alloc (.cells (byteVals [0, 0, 0, 0]).toArray 45)).alloc (.cells (byteVals [0, 0, 0, 0]).toArray 45)) w.heap.size [0, 0, 0, 0] := (Below.heap_alloc _ _ _ (by simp)).trans (heap_alloc_new w _)
  have z1 : ArrT 45 ((w.alloc (.cells (byteVals [0, 0, 0, 0]).toArray 45)).alloc (.cells (byteVals [0, 0, 0, 0]).toArray 45)) (w.heap.size + 1) (fillD []) := by
    have := heap_alloc_new (w.alloc (.cells (byteVals [0, 0, 0, 0]).toArray 45)) (.cells (byteVals [0, 0, 0, 0]).toArray 45)
    rwa [World.size_alloc] at this
  have zb : Below w.heap.size w ((w.alloc (.cells (byteVals [0, 0, 0, 0]).toArray 45)).alloc (.cells (byteVals [0, 0, 0, 0]).toArray 45)) := ((Below.refl _ _).alloc (Nat.le_refl _) _).alloc (by simp) _
  rw [← zero4] at z0 z1 zb
  have Z := Lib.hid (And.intro z0 (And.intro z1 zb))
  have HL := Lib.hid hl
  have HLL := Lib.hid hll
  have HBS := Lib.hid hbs
  clear z0 z1 zb hl hll hbs
  go_enter Tryd.func44, Tryd.ntmps44
  go_wp2
  go_loopw [5, 6, 7] (fun p q r wr => ∃ (ps : List (List UInt8)) (cur : List UInt8) (i : Nat), p = .string ⟨cur.toArray⟩ ∧ q = .int .i64 (ps.length : Int) ∧ r = .int .i64 (i : Int) ∧ DotR l ps cur i ∧ ArrT 45 wr (w.heap.size + 1) (fillD ps) ∧ ArrT 45 wr w.heap.size [0, 0, 0, 0] ∧ Below w.heap.size w wr) (fun _ _ r _ => s.size + 1 - (intOf r).toNat)
  case atStart => exact ⟨[], [], 0, rfl, rfl, rfl, dotR_zero l, Z.out.2.1, Z.out.1, Z.out.2.2⟩
  case round =>
    obtain ⟨ps, cur, i, rfl, rfl, rfl, hD, hA, hB, hb⟩ := hrel
    clear Z
    have hie := hD.le
    rw [HLL.out] at hie
    have hmany := hD.many
    have hshort := hD.short
    have HD := Lib.hid hD
    have HA := Lib.hid hA
    have HZ := Lib.hid hB
    have HB := Lib.hid hb
    clear hA hB hb hD
    have hsz : (⟨cur.toArray⟩ : ByteArray).size = cur.length := by simp [ByteArray.size]
    by_cases hlt : i < s.size
    · have hkl : i < l.length := by rw [HLL.out]; exact hlt
      have hsk := HBS.out i hlt
      by_cases hp : byteAt l i = 46
      · have hp2 : ((s[i].toNat : Int) == 46) = true := by rw [hsk, hp]; rfl
        have hp3 : (s[i].toNat : Int) = 46 := by rw [hsk, hp]
        clear hsk
        have HN := Lib.hid (fun W => rnumber_any ⟨cur.toArray⟩ 255 W (by rw [hsz]; omega) (by omega))
        rw [show (⟨cur.toArray⟩ : ByteArray).data.toList = cur by simp] at HN
        by_cases hn : numB cur 255 = true
        · have hv := valB_num hn
          rw [hn, hv] at HN
          have hv1 := UInt8.toNat_lt (valB cur)
          by_cases h4 : ps.length = 4
          · have HNO := Lib.hid (HD.out.five (by omega) (fun _ => hp) h4)
            have h4' : (ps.length : Int) = 4 := by omega
            clear hv hn
            generalize (valB cur).toNat = v at *
            go_wp2_with (first | (go_at_call 43; refine (HN.out _).mono ?_; rintro e w2 ⟨rfl, rfl⟩) | (refine wpList_store_arrT rfl (.tmp 2) (.tmp 44) rfl w.heap.size [0, 0, 0, 0] arr4 [0, 0, 0, 0] rfl rfl HZ.out rfl ?_))
            exact bodyPost_ret (results_arrT2 Tryd.results44 _ _ w.heap.size [0, 0, 0, 0] arr4 rfl (arrT_setRow HZ.out _)) rfl ⟨by rw [HNO.out, dotL_no HNO.out]; rfl, below_setRow HB.out (Nat.le_refl _) _⟩
          · have HNX := Lib.hid (HD.out.next (by omega) (fun _ => hp) h4 hn)
            have hset := fillD_set ps cur (by omega)
            have h4' : ¬ (ps.length : Int) = 4 := by omega
            have hcell := HA.out.cell ps.length (by rw [fillD_length ps (by omega)]; omega)
            have hfr := HA.out.frozen ps.length
            have hst := HA.out.store ps.length ((valB cur).toNat : Int) (valB cur) rfl
            rw [hset] at hst
            have HS := Lib.hid hst
            have HR : Hid (∀ x : Value, ArrT 45 (wr.setCell ⟨w.heap.size + 1, ps.length, none⟩ x) w.heap.size [0, 0, 0, 0] ∧ Below w.heap.size w (wr.setCell ⟨w.heap.size + 1, ps.length, none⟩ x)) := fun x =>
              ⟨HZ.out.setOther (by omega) _ _, HB.out.setCell (by simp) _⟩
            clear hset hv hn hst
            generalize (valB cur).toNat = v at *
            go_wp2_with (go_at_call 43; refine (HN.out _).mono ?_; rintro e w2 ⟨rfl, rfl⟩)
            go_roundw
            case rel => exact ⟨_, [], i + 1, rfl, by simp, by go_num, HNX.out, HS.out, (HR.out _).1, (HR.out _).2⟩
            case measure => simp [intOf]; omega
        · have hn' : numB cur 255 = false := by simpa using hn
          have HNO := Lib.hid (dot_bad (HD.out.part (by omega) (fun _ => hp)) hn')
          rw [hn', numV_no hn'] at HN
          clear hn hn'
          go_wp2_with (first | (go_at_call 43; refine (HN.out _).mono ?_; rintro e w2 ⟨rfl, rfl⟩) | (refine wpList_store_arrT rfl (.tmp 2) (.tmp 44) rfl w.heap.size [0, 0, 0, 0] arr4 [0, 0, 0, 0] rfl rfl HZ.out rfl ?_))
          exact bodyPost_ret (results_arrT2 Tryd.results44 _ _ w.heap.size [0, 0, 0, 0] arr4 rfl (arrT_setRow HZ.out _)) rfl ⟨by rw [HNO.out, dotL_no HNO.out]; rfl, below_setRow HB.out (Nat.le_refl _) _⟩
      · have hp3 : ¬ (s[i].toNat : Int) = 46 := by rw [hsk]; exact hp
        have hnx := HD.out.byte hkl hp
        have HNX := Lib.hid hnx
        have hone : Hid ((⟨cur.toArray⟩ : ByteArray) ++ s.extract i (i + 1) = ⟨(cur ++ [l.getD i 0]).toArray⟩) := by
          show (⟨cur.toArray⟩ : ByteArray) ++ s.extract i (i + 1) = ⟨(cur ++ [l.getD i 0]).toArray⟩
          have e : s.extract i (i + 1) = ⟨[l.getD i 0].toArray⟩ := by
            apply ByteArray.ext
            apply Array.toList_inj.1
            rw [part_extract, HL.out, show i + 1 - i = 1 by omega, List.drop_eq_getElem_cons hkl]
            show List.take 1 (l[i] :: l.drop (i + 1)) = [l.getD i 0]
            rw [List.take_succ_cons, List.take_zero]
            simp [List.getD, hkl]
          rw [e, str_append]
        have hcl : cur.length ≤ 500000 := by omega
        clear hsk hnx
        go_wp2
        go_roundw
        case rel => exact ⟨ps, _, i + 1, congrArg Value.string hone.out, rfl, by go_num, HNX.out, HA.out, HZ.out, HB.out⟩
        case measure => simp [intOf]; omega
    · by_cases hend : i = s.size
      · have hp : i < l.length → byteAt l i = 46 := fun h => by rw [HLL.out] at h; omega
        have hil : i ≤ l.length := by rw [HLL.out]; omega
        have HIL2 := Lib.hid hil
        have HP := Lib.hid hp
        clear hp hil
        have HN := Lib.hid (fun W => rnumber_any ⟨cur.toArray⟩ 255 W (by rw [hsz]; omega) (by omega))
        rw [show (⟨cur.toArray⟩ : ByteArray).data.toList = cur by simp] at HN
        by_cases hn : numB cur 255 = true
        · have hv := valB_num hn
          rw [hn, hv] at HN
          have hv1 := UInt8.toNat_lt (valB cur)
          by_cases h4 : ps.length = 4
          · have HNO := Lib.hid (HD.out.five HIL2.out HP.out h4)
            have h4' : (ps.length : Int) = 4 := by omega
            clear hv hn
            generalize (valB cur).toNat = v at *
            go_wp2_with (first | (go_at_call 43; refine (HN.out _).mono ?_; rintro e w2 ⟨rfl, rfl⟩) | (refine wpList_store_arrT rfl (.tmp 2) (.tmp 44) rfl w.heap.size [0, 0, 0, 0] arr4 [0, 0, 0, 0] rfl rfl HZ.out rfl ?_))
            exact bodyPost_ret (results_arrT2 Tryd.results44 _ _ w.heap.size [0, 0, 0, 0] arr4 rfl (arrT_setRow HZ.out _)) rfl ⟨by rw [HNO.out, dotL_no HNO.out]; rfl, below_setRow HB.out (Nat.le_refl _) _⟩
          · have HNX := Lib.hid (HD.out.next HIL2.out HP.out h4 hn)
            have hset := fillD_set ps cur (by omega)
            have h4' : ¬ (ps.length : Int) = 4 := by omega
            have hcell := HA.out.cell ps.length (by rw [fillD_length ps (by omega)]; omega)
            have hfr := HA.out.frozen ps.length
            have hst := HA.out.store ps.length ((valB cur).toNat : Int) (valB cur) rfl
            rw [hset] at hst
            have HS := Lib.hid hst
            have HR : Hid (∀ x : Value, ArrT 45 (wr.setCell ⟨w.heap.size + 1, ps.length, none⟩ x) w.heap.size [0, 0, 0, 0] ∧ Below w.heap.size w (wr.setCell ⟨w.heap.size + 1, ps.length, none⟩ x)) := fun x =>
              ⟨HZ.out.setOther (by omega) _ _, HB.out.setCell (by simp) _⟩
            clear hset hv hn hst
            generalize (valB cur).toNat = v at *
            go_wp2_with (go_at_call 43; refine (HN.out _).mono ?_; rintro e w2 ⟨rfl, rfl⟩)
            go_roundw
            case rel => exact ⟨_, [], i + 1, rfl, by simp, by go_num, HNX.out, HS.out, (HR.out _).1, (HR.out _).2⟩
            case measure => simp [intOf]; omega
        · have hn' : numB cur 255 = false := by simpa using hn
          have HNO := Lib.hid (dot_bad (HD.out.part HIL2.out HP.out) hn')
          rw [hn', numV_no hn'] at HN
          clear hn hn'
          go_wp2_with (first | (go_at_call 43; refine (HN.out _).mono ?_; rintro e w2 ⟨rfl, rfl⟩) | (refine wpList_store_arrT rfl (.tmp 2) (.tmp 44) rfl w.heap.size [0, 0, 0, 0] arr4 [0, 0, 0, 0] rfl rfl HZ.out rfl ?_))
          exact bodyPost_ret (results_arrT2 Tryd.results44 _ _ w.heap.size [0, 0, 0, 0] arr4 rfl (arrT_setRow HZ.out _)) rfl ⟨by rw [HNO.out, dotL_no HNO.out]; rfl, below_setRow HB.out (Nat.le_refl _) _⟩
      · have hi2 : i = l.length + 1 := by rw [HLL.out]; omega
        have hgt : s.size < i := by omega
        have hdone := HD.out.done hi2
        by_cases h4 : ps.length = 4
        · have HGD := Lib.hid (dot_good hdone h4 HD.out.good)
          have h4' : (ps.length : Int) = 4 := by omega
          have HF := Lib.hid (fillD_length ps (by omega))
          clear hdone hi2
          generalize fillD ps = F at *
          go_wp2_with (first | (refine wpList_load_arrT rfl (.tmp 4) rfl (w.heap.size + 1) F (by rw [HF.out]; exact arr4) rfl HA.out ?_) | (refine wpList_store_arrT rfl (.tmp 2) (.tmp 54) rfl w.heap.size F (by rw [HF.out]; exact arr4) [0, 0, 0, 0] rfl rfl HZ.out HF.out.symm ?_))
          exact bodyPost_ret (results_arrT2 Tryd.results44 _ _ w.heap.size F (by rw [HF.out]; exact arr4) rfl (arrT_setRow HZ.out _)) rfl ⟨by rw [HGD.out.1, HGD.out.2]; rfl, below_setRow HB.out (Nat.le_refl _) _⟩
        · have HNO := Lib.hid (dot_many hdone h4)
          have h4' : ¬ (ps.length : Int) = 4 := by omega
          clear hdone hi2
          go_wp2_with (refine wpList_store_arrT rfl (.tmp 2) (.tmp 53) rfl w.heap.size [0, 0, 0, 0] arr4 [0, 0, 0, 0] rfl rfl HZ.out rfl ?_)
          exact bodyPost_ret (results_arrT2 Tryd.results44 _ _ w.heap.size [0, 0, 0, 0] arr4 rfl (arrT_setRow HZ.out _)) rfl ⟨by rw [HNO.out, dotL_no HNO.out]; rfl, below_setRow HB.out (Nat.le_refl _) _⟩
end Go.Proofs.YtlbgmpjeckigjaaDoor

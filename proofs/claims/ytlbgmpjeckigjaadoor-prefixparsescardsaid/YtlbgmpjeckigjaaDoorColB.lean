/- group, with and withGroup of package colon. Proved: what each returns. -/
import Derived.Test.YtlbgmpjeckigjaaDoorColA
import Derived.Test.YtlbgmpjeckigjaaDoorOct
namespace Go.Proofs.YtlbgmpjeckigjaaDoor
open Go Go.RowKit

/-- Digits, with as many 0s ahead as lack. -/
def pad4 (l : List UInt8) : List UInt8 := List.replicate (4 - l.length) 48 ++ l
theorem pad4_length (l : List UInt8) (h : l.length ≤ 4) : (pad4 l).length = 4 := by simp [pad4]; omega
theorem hexN_pad : ∀ (n : Nat) (l : List UInt8), hexN (List.replicate n 48 ++ l) = hexN l
  | 0, l => rfl
  | n + 1, l => by rw [List.replicate_succ, List.cons_append, hexN_zero, hexN_pad n l]
theorem pad4_hex (l : List UInt8) : (pad4 l).all isHex = l.all isHex := by
  unfold pad4
  rw [List.all_append]
  have : (List.replicate (4 - l.length) (48 : UInt8)).all isHex = true := List.all_eq_true.2 fun x hx => by
    rw [List.eq_of_mem_replicate hx]; decide
  rw [this, Bool.true_and]
theorem four_pair (P : List UInt8) (h : P.length = 4) : ∃ x y, pairs P = [x, y] ∧ x.toNat * 256 + y.toNat = hexN P := by
  match P, h with
  | [a, b, c, d], _ =>
    have ha := hexV_lt a
    have hb := hexV_lt b
    have hc := hexV_lt c
    have hd := hexV_lt d
    refine ⟨_, _, rfl, ?_⟩
    rw [UInt8.toNat_ofNat_of_lt' (show 16 * hexV a + hexV b < 256 by omega), UInt8.toNat_ofNat_of_lt' (show 16 * hexV c + hexV d < 256 by omega)]
    show _ = 16 * (16 * (16 * (16 * 0 + hexV a) + hexV b) + hexV c) + hexV d
    omega
theorem pad4_unhex (l : List UInt8) (h0 : l.length ≠ 0) (h4 : l.length ≤ 4) : unhexB (pad4 l) = (grpOf l).isSome ∧ (unhexB (pad4 l) = true → ∃ x y, unhexL (pad4 l) = [x, y] ∧ x.toNat * 256 + y.toNat = grpV l) := by
  have hl := pad4_length l h4
  have hB : unhexB (pad4 l) = l.all isHex := by
    unfold unhexB
    rw [hl, pad4_hex]
    rfl
  cases ha : l.all isHex with
  | true =>
    have hg : grpOf l = some (hexN l) := by
      unfold grpOf
      rw [if_neg (fun hc => by rcases hc with h | h | h; exact h0 h; omega; rw [ha] at h; cases h)]
    rw [hB, ha, hg]
    refine ⟨rfl, fun _ => ?_⟩
    obtain ⟨x, y, hp, he⟩ := four_pair (pad4 l) hl
    refine ⟨x, y, ?_, ?_⟩
    · unfold unhexL; rw [hB, ha, if_pos rfl, hp]
    · rw [he]
      unfold grpV
      rw [hg]
      exact hexN_pad _ l
  | false =>
    have hg : grpOf l = none := by
      unfold grpOf
      rw [if_pos (.inr (.inr ha))]
    rw [hB, ha, hg]
    exact ⟨rfl, fun h => by cases h⟩
theorem zeros4_extract : ∀ n : Fin 5, (⟨#[48, 48, 48, 48]⟩ : ByteArray).extract n.val 4 = ⟨(List.replicate (4 - n.val) 48).toArray⟩ := by decide +kernel
theorem pad4_text (s : ByteArray) (h : s.size ≤ 4) : ((⟨#[48, 48, 48, 48]⟩ : ByteArray).extract s.size 4 ++ s).data.toList = pad4 s.data.toList ∧ ((⟨#[48, 48, 48, 48]⟩ : ByteArray).extract s.size 4 ++ s).size = 4 := by
  have e := zeros4_extract ⟨s.size, by omega⟩
  simp only at e
  rw [e]
  have hl : s.data.toList.length = s.size := rfl
  have e1 : ((⟨(List.replicate (4 - s.size) 48).toArray⟩ : ByteArray) ++ s).data.toList = pad4 s.data.toList := by
    unfold pad4
    rw [hl]
    simp
  refine ⟨e1, ?_⟩
  have := congrArg List.length e1
  rw [pad4_length _ (by rw [hl]; exact h)] at this
  exact this
theorem grp_none {l : List UInt8} (h : l.length = 0 ∨ 4 < l.length) : grpOf l = none := by
  unfold grpOf
  rw [if_pos (h.elim .inl (fun h => .inr (.inl h)))]
set_option maxRecDepth 100000 in
set_option maxHeartbeats 2000000 in
theorem group_any (s : ByteArray) (w : World) (hs : s.size ≤ 1000000) :
    Calls Tryd.prog 87 #[.string s] w fun r w' => r = .returned (.tuple #[.int .i64 ((grpV s.data.toList : Nat) : Int), .bool (grpOf s.data.toList).isSome]) ∧ Below w.heap.size w w' := by
  have hl : s.data.toList.length = s.size := rfl
  by_cases h0 : s.size = 0
  · have hg := grp_none (l := s.data.toList) (.inl h0)
    have he : s = ⟨#[]⟩ := by
      rcases s with ⟨⟨d⟩⟩
      have : d.length = 0 := h0
      rw [List.eq_nil_of_length_eq_zero this]
    unfold grpV
    rw [hg]
    subst he
    go_enter Tryd.func87, Tryd.ntmps87
    go_wp2
    go_ret2
    exact ⟨rfl, Below.refl _ _⟩
  · have e1 : ¬ s.toList = [] := by
      rw [ByteArray.toList_eq]
      intro e
      exact h0 (by rw [← hl, e]; rfl)
    have e2 : s.toList.isEmpty = false := by rw [List.isEmpty_eq_false_iff]; exact e1
    have HE := Lib.hid (And.intro e1 e2)
    by_cases h4 : 4 < s.size
    · have hg := grp_none (l := s.data.toList) (.inr h4)
      have h4' : (4 : Int) < (s.size : Int) := by omega
      unfold grpV
      rw [hg]
      go_enter Tryd.func87, Tryd.ntmps87
      go_wp2
      go_ret2
      exact ⟨rfl, Below.refl _ _⟩
    · have h5 : s.size ≤ 4 := by omega
      obtain ⟨p1, p2⟩ := pad4_text s h5
      obtain ⟨u1, u2⟩ := pad4_unhex s.data.toList (by rw [hl]; exact h0) (by rw [hl]; exact h5)
      have hU := fun W => unhex_any ((⟨#[48, 48, 48, 48]⟩ : ByteArray).extract s.size 4 ++ s) W (by rw [p2]; omega)
      rw [p1] at hU
      have hsz : ((⟨#[48, 48, 48, 48]⟩ : ByteArray).extract s.size 4).size = 4 - s.size := by rw [ByteArray.size_extract]; rfl
      have h4' : ¬ (4 : Int) < (s.size : Int) := by omega
      by_cases hB : unhexB (pad4 s.data.toList) = true
      · obtain ⟨x, y, q1, q2⟩ := u2 hB
        rw [hB] at u1
        rw [hB, q1] at hU
        rw [← u1, ← q2]
        have HU := Lib.hid hU
        have HP := Lib.hid (fun W => pair_any x y W)
        clear u1 u2 p1 p2 hU q1 q2 hB hl h0 h4
        generalize x.toNat * 256 + y.toNat = N at *
        go_enter Tryd.func87, Tryd.ntmps87
        go_wp2_with (first | (go_at_call 93; refine (HU.out _).mono ?_; rintro e w1 ⟨⟨a1, n1, c1, rfl, i1⟩, b1⟩; refine Hid.out ?_))
        refine Lib.hid ?_
        obtain ⟨a2, cap2, he, l1, l2, l3⟩ := i1
        simp only [Value.slice.injEq] at he
        obtain ⟨rfl, rfl, rfl⟩ := he
        obtain ⟨b, off, rfl, hlt, hc⟩ := l3 (by simp)
        have d0 := hc 0 (by simp)
        have d1 := hc 1 (by simp)
        rw [Nat.add_zero, show byteAt [x, y] 0 = (x.toNat : Int) from rfl] at d0
        rw [show byteAt [x, y] 1 = (y.toNat : Int) from rfl] at d1
        simp only [List.length_cons, List.length_nil] at l1 hc ⊢
        have HB1 := Lib.hid b1
        clear hc l3 hlt HU b1
        go_wp2_with fail
        refine wp_region_noPanic ?_
        refine wp_region_held_drew (S := PairS b off x y) (by kernel_rfl) ⟨d0, d1⟩ (fun hHeld => ?_)
        refine held_take (v := ?v138) 0 rfl (by kernel_rfl) (by kernel_rfl) (by kernel_rfl) (fun _ _ _ h => h) (by rfl) ?y138 (by assumption) ?_
        case y138 => (intro w hSw; unfold PairS at hSw; go_simp; (try with_reducible rfl); (try omega))
        simp only [List.setIfInBounds_toArray, List.set_cons_zero, List.set_cons_succ]
        refine held_take (v := ?v141) 1 rfl (by kernel_rfl) (by kernel_rfl) (by kernel_rfl) (fun _ _ _ h => h) (by rfl) ?y141 (by assumption) ?_
        case y141 => (intro w hSw; unfold PairS at hSw; go_simp; (try with_reducible rfl); (try omega))
        simp only [List.setIfInBounds_toArray, List.set_cons_zero, List.set_cons_succ]
        refine held_take (v := ?v144) 2 rfl (by kernel_rfl) (by kernel_rfl) (by kernel_rfl) (fun _ _ _ h => h) (by rfl) ?y144 (by assumption) ?_
        case y144 => (intro w hSw; unfold PairS at hSw; go_simp; (try with_reducible rfl); (try omega))
        simp only [List.setIfInBounds_toArray, List.set_cons_zero, List.set_cons_succ]
        refine held_take (v := ?v147) 3 rfl (by kernel_rfl) (by kernel_rfl) (by kernel_rfl) (fun _ _ _ h => h) (by rfl) ?y147 (by assumption) ?_
        case y147 => (intro w hSw; unfold PairS at hSw; go_simp; (try with_reducible rfl); (try omega))
        simp only [List.setIfInBounds_toArray, List.set_cons_zero, List.set_cons_succ]
        refine held_take (v := ?v150) 4 rfl (by kernel_rfl) (by kernel_rfl) (by kernel_rfl) (fun _ _ _ h => h) (by rfl) ?y150 (by assumption) ?_
        case y150 => (intro w hSw; unfold PairS at hSw; go_simp; (try with_reducible rfl); (try omega))
        simp only [List.setIfInBounds_toArray, List.set_cons_zero, List.set_cons_succ]
        refine held_take (v := ?v153) 5 rfl (by kernel_rfl) (by kernel_rfl) (by kernel_rfl) (fun _ _ _ h => h) (by rfl) ?y153 (by assumption) ?_
        case y153 => (intro w hSw; unfold PairS at hSw; go_simp; (try with_reducible rfl); (try omega))
        simp only [List.setIfInBounds_toArray, List.set_cons_zero, List.set_cons_succ]
        refine held_one 6 rfl (by kernel_rfl) (by rfl) (fun K hK => ?_)
        go_simp
        refine (HP.out _).mono ?_
        rintro e w' ⟨rfl, rfl⟩
        refine hK.out _ _ hHeld (fun hHeld => ?_)
        clear hK K
        refine held_take (v := ?v162) 7 rfl (by kernel_rfl) (by kernel_rfl) (by kernel_rfl) (fun _ _ _ h => h) (by rfl) ?y162 (by assumption) ?_
        case y162 => (intro w hSw; unfold PairS at hSw; go_simp; (try with_reducible rfl); (try omega))
        simp only [List.setIfInBounds_toArray, List.set_cons_zero, List.set_cons_succ]
        refine held_take (v := ?v165) 8 rfl (by kernel_rfl) (by kernel_rfl) (by kernel_rfl) (fun _ _ _ h => h) (by rfl) ?y165 (by assumption) ?_
        case y165 => (intro w hSw; unfold PairS at hSw; go_simp; (try with_reducible rfl); (try omega))
        simp only [List.setIfInBounds_toArray, List.set_cons_zero, List.set_cons_succ]
        refine wpAnyH_done (by kernel_rfl) ?_ _
        refine NoPanic.normal ?_
        go_wp2
        go_ret2
        exact ⟨rfl, HB1.out.drew⟩
      · have hB' : unhexB (pad4 s.data.toList) = false := by simpa using hB
        rw [hB'] at u1
        have hg : grpOf s.data.toList = none := by
          cases h : grpOf s.data.toList with
          | none => rfl
          | some n => rw [h] at u1; cases u1
        have hv : grpV s.data.toList = 0 := by unfold grpV; rw [hg]; rfl
        rw [hB', unhexL_no hB'] at hU
        rw [← u1, hv]
        have HU := Lib.hid hU
        clear u1 u2 p1 p2 hU hB hB' hl h0 h4 hg hv
        go_enter Tryd.func87, Tryd.ntmps87
        go_wp2_with (first | (go_at_call 93; refine (HU.out _).mono ?_; rintro e w1 ⟨⟨a1, n1, c1, rfl, i1⟩, b1⟩))
        go_ret2
        exact ⟨rfl, b1⟩
theorem rowI_size (g : List Nat) (h : g.length ≤ 8) : intAt (rowI g) 8 = (g.length : Int) := by
  have e := fill8_length g h
  unfold intAt rowI
  rw [List.getD, List.getElem?_append_right (by omega), e]
  rfl
/-- With groups behind, if there is room. -/
def withO (g ns : List Nat) : Option (List Nat) := if g.length + ns.length ≤ 8 then some (g ++ ns) else none
theorem withO_yes {g ns : List Nat} (h : g.length + ns.length ≤ 8) : withO g ns = some (g ++ ns) := by unfold withO; rw [if_pos h]
theorem withO_no {g ns : List Nat} (h : ¬ g.length + ns.length ≤ 8) : withO g ns = none := by unfold withO; rw [if_neg h]
/-- The cells behind the copy, and behind the store. -/
theorem row_with (g ns : List Nat) (h : g.length + ns.length ≤ 8) : (splice (intVals (rowI g)) g.length (intVals (natsI ns))).set 8 (.int .i64 ((g.length : Int) + (ns.length : Int))) = intVals (rowI (g ++ ns)) := by
  have e1 : (fill8 g).length = 8 := fill8_length g (by omega)
  have e2 : splice (rowI g) g.length (natsI ns) = fill8 (g ++ ns) ++ [(g.length : Int)] := by
    rw [fill8_more g ns h]
    unfold splice rowI
    rw [List.take_append_of_le_length (by omega), fill8_take, natsI_length, List.drop_append_of_le_length (by omega)]
    simp [natsI]
  have e3 : splice (intVals (rowI g)) g.length (intVals (natsI ns)) = intVals (splice (rowI g) g.length (natsI ns)) := by
    simp [splice, intVals]
  have e4 : (fill8 (g ++ ns)).length = 8 := fill8_length _ (by simp; omega)
  rw [e3, intVals_set, e2, List.set_append, if_neg (by omega), e4]
  unfold rowI
  simp
theorem sizeInt : (Tryd.prog.info? 3).map (·.size) = some 1 := by kernel_rfl
theorem wp_copy_set {P : Program} {w : World} {o : Oper} {a : Act} {K : Act → World → Prop} {Q : Exit → Act → World → Prop} (d s : Operand) (dT sT : TypeId)
    (ho : o.op = .call { callee := .builtin .copy, args := #[d, s], argTypes := #[dT, sT] }) (elem : TypeId) (hu : P.underlying dT = some (.slice elem)) (hsz : (P.info? elem).map (·.size) = some 1)
    (dp sp : Option Addr) (dLen dCap sLen sCap : Nat) (hd : a.eval d = .slice dp dLen dCap) (hs : a.eval s = .slice sp sLen sCap)
    (g off : Nat) (cur : List Value) (t : TypeId) (hg : w.heap[g]? = some (.cells cur.toArray t (0, 0))) (cs : List Value) (hn : cs.length = Nat.min sLen dLen)
    (hpos : 0 < cs.length → dp = some ⟨g, off, none⟩ ∧ ∃ ad, sp = some ad ∧ ∀ j v, cs[j]? = some v → w.cell? (ad.add j) = some v)
    (hfit : off + cs.length ≤ cur.length) (h1 : ∀ v ∈ cs, v.oneCell' = true)
    (h : K (a.put o.dst (goInt cs.length)) (w.setRow g (splice cur off cs).toArray)) : Oper.wp P o a w K Q := by
  by_cases h0 : cs.length = 0
  · obtain rfl : cs = [] := List.eq_nil_of_length_eq_zero h0
    have hrun := run_copy_none (P := P) w dT sT o.type elem dp sp dLen dCap sLen sCap hu hsz (by simpa using hn.symm)
    rw [show (splice cur off []).toArray = cur.toArray by simp [splice], setRow_self w g _ t _ hg] at h
    unfold Oper.wp
    simp [execOp, ho, resolve, invoke, builtin, hd, hs, hrun, Result.andThen]
    exact h
  · obtain ⟨rfl, ad, rfl, hsrc⟩ := hpos (by omega)
    have hrun := run_copy_row (P := P) w dT sT o.type elem g off dLen dCap ad sLen sCap cur.toArray t cs hu hsz hg hn hsrc (by simpa using hfit) h1
    unfold Oper.wp
    simp [execOp, ho, resolve, invoke, builtin, hd, hs, hrun, Result.andThen]
    have e : cur.take off ++ (cs ++ cur.drop (off + cs.length)) = splice cur off cs := rfl
    simp only [e]
    exact h
theorem IsI.src {w : World} {a : Option Addr} {n cap : Nat} {l : List Int} (h : IsI w (.slice a n cap) l) (hp : 0 < l.length) : ∃ ad, a = some ad ∧ ∀ j v, (intVals l)[j]? = some v → w.cell? (ad.add j) = some v := by
  obtain ⟨a2, cap2, he, h1, h2, h3⟩ := h
  simp only [Value.slice.injEq] at he
  obtain ⟨rfl, rfl, rfl⟩ := he
  obtain ⟨b, off, rfl, hlt, hc⟩ := h3 hp
  refine ⟨_, rfl, fun j v hj => ?_⟩
  have hjl : j < l.length := by have := (List.getElem?_eq_some_iff.1 hj).1; rwa [intVals_length] at this
  rw [intVals_getElem? l j hjl] at hj
  cases hj
  rw [plain_add]
  exact hc j hjl
set_option maxRecDepth 100000 in
set_option maxHeartbeats 4000000 in
theorem with_any (g ns : List Nat) (a : Option Addr) (n cap : Nat) (w : World) (hg : g.length ≤ 8) (hI : IsI w (.slice a n cap) (natsI ns)) (hns : 0 < ns.length) (hns2 : ns.length ≤ 8) :
    Calls Tryd.prog 79 #[intV (rowI g), .slice a n cap] w fun r w' => r = .returned (.tuple #[intV (rdV (withO g ns)), .bool (withO g ns).isSome]) ∧ Below w.heap.size w w' := by
  generalize hW : ((w.alloc (.cells (intVals (rowI g)).toArray 78)).alloc (.cells (intVals rowI0).toArray 78)) = W
  have z0 : IntT 78 W w.heap.size (rowI g) := by rw [← hW]; exact (intT_new w _).allocO _
  have z1 : IntT 78 W (w.heap.size + 1) rowI0 := by
    have := intT_new (t := 78) (w.alloc (.cells (intVals (rowI g)).toArray 78)) rowI0
    rw [World.size_alloc, hW] at this
    exact this
  have zb : Below w.heap.size w W := by rw [← hW]; exact ((Below.refl _ _).alloc (Nat.le_refl _) _).alloc (by simp) _
  have zI : IsI W (.slice a n cap) (natsI ns) := hI.below zb
  have hn : n = ns.length := by obtain ⟨_, _, he, _⟩ := hI; simp only [Value.slice.injEq] at he; rw [he.2.1, natsI_length]
  subst hn
  have Z := Lib.hid (And.intro z0 (And.intro z1 (And.intro zb zI)))
  have hc8 := z0.cell 8 (by rw [rowI_length g hg]; omega)
  rw [rowI_size g hg] at hc8
  have hf8 := z0.frozen 8
  have HRL := Lib.hid (rowI_length g hg)
  rw [← hW, ← zero9] at Z hc8 hf8
  clear hW z0 z1 zb zI hI
  clear W
  rw [show intV (rowI g) = .agg (intVals (rowI g)).toArray from rfl]
  by_cases hfit : g.length + ns.length ≤ 8
  · rw [withO_yes hfit]
    have HROW := Lib.hid (row_with g ns hfit)
    have hsl := fun W => slice_from ints8.row size_int W w.heap.size g.length (by omega)
    rw [if_neg (by omega)] at hsl
    have hgt : ¬ (8 : Int) - (g.length : Int) < (ns.length : Int) := by omega
    go_enter Tryd.func79, Tryd.ntmps79
    go_wp2_with fail
    refine wp_region_noPanic ?_
    refine wp_region_held_drew (S := fun _ => True) (by kernel_rfl) trivial (fun hHeld => ?_)
    have hX : ∃ X, ((w.alloc (.cells (intVals (rowI g)).toArray 78)).alloc (.cells #[.int .i64 0, .int .i64 0, .int .i64 0, .int .i64 0, .int .i64 0, .int .i64 0, .int .i64 0, .int .i64 0, .int .i64 0] 78)).drew = X := ⟨_, rfl⟩
    obtain ⟨X, hX⟩ := hX
    have x0 : IntT 78 X w.heap.size (rowI g) ∧ IntT 78 X (w.heap.size + 1) rowI0 ∧ Below w.heap.size w X ∧ IsI X (.slice a ns.length cap) (natsI ns) := by
      rw [← hX]
      exact ⟨Z.out.1, Z.out.2.1, Z.out.2.2.1.drew, Z.out.2.2.2.below ⟨rfl, rfl, rfl, Nat.le_refl _, fun _ _ => rfl⟩⟩
    have X0 := Lib.hid x0
    have HSRC := Lib.hid (x0.2.2.2.src (by rw [natsI_length]; exact hns))
    have hc8 := x0.1.cell 8 (by rw [HRL.out]; omega)
    rw [rowI_size g hg] at hc8
    rw [hX]
    clear hX
    have HMIN : Hid ((intVals (natsI ns)).length = Nat.min ns.length (8 - g.length)) := by
      show _ = _
      rw [intVals_length, natsI_length]
      exact (Nat.min_eq_left (by omega)).symm
    have HFT : Hid (g.length + (intVals (natsI ns)).length ≤ (intVals (rowI g)).length) := by
      show _ ≤ _
      rw [intVals_length, natsI_length, intVals_length, HRL.out]
      omega
    have HNL : Hid ((intVals (natsI ns)).length = ns.length) := by show _ = _; rw [intVals_length, natsI_length]
    have hsp : (splice (intVals (rowI g)) g.length (intVals (natsI ns))).length = 9 := by
      rw [length_splice _ _ _ HFT.out, intVals_length, HRL.out]
    have y0 : (X.setRow w.heap.size (splice (intVals (rowI g)) g.length (intVals (natsI ns))).toArray).heap[w.heap.size]? = some (.cells (splice (intVals (rowI g)) g.length (intVals (natsI ns))).toArray 78 (0, 0)) := setRow_heap _ _ _ _ _ _ x0.1
    have y8 : (X.setRow w.heap.size (splice (intVals (rowI g)) g.length (intVals (natsI ns))).toArray).cell? ⟨w.heap.size, 8, none⟩ = some (.int .i64 (g.length : Int)) := by
      rw [cell_of_row _ _ _ _ _ _ y0]
      have e3 : splice (intVals (rowI g)) g.length (intVals (natsI ns)) = intVals (splice (rowI g) g.length (natsI ns)) := by simp [splice, intVals]
      have e4 : (splice (rowI g) g.length (natsI ns)) = ((rowI g).take g.length ++ (natsI ns ++ (rowI g).drop (g.length + (natsI ns).length))) := rfl
      have e5 : (fill8 g).length = 8 := fill8_length g (by omega)
      rw [e3, List.getElem?_toArray, intVals_getElem? _ 8 (by rw [← intVals_length, ← e3, hsp]; omega), e4]
      congr 2
      unfold intAt
      rw [List.getD, ← List.append_assoc, List.getElem?_append_right (by simp [HRL.out, natsI_length]; omega), List.getElem?_drop]
      have e6 : (List.take g.length (rowI g) ++ natsI ns).length = g.length + (natsI ns).length := by simp [HRL.out]; omega
      rw [e6, show g.length + (natsI ns).length + (8 - (g.length + (natsI ns).length)) = 8 by rw [natsI_length]; omega]
      exact rowI_size g hg
    have yf : (X.setRow w.heap.size (splice (intVals (rowI g)) g.length (intVals (natsI ns))).toArray).frozen? ⟨w.heap.size, 8, none⟩ = false := frozen_of_row _ _ _ _ _ y0
    have HY : Hid (IntT 78 ((X.setRow w.heap.size (splice (intVals (rowI g)) g.length (intVals (natsI ns))).toArray).setCell ⟨w.heap.size, 8, none⟩ (.int .i64 ((g.length : Int) + (ns.length : Int)))) w.heap.size (rowI (g ++ ns)) ∧ IntT 78 ((X.setRow w.heap.size (splice (intVals (rowI g)) g.length (intVals (natsI ns))).toArray).setCell ⟨w.heap.size, 8, none⟩ (.int .i64 ((g.length : Int) + (ns.length : Int)))) (w.heap.size + 1) rowI0 ∧ Below w.heap.size w ((X.setRow w.heap.size (splice (intVals (rowI g)) g.length (intVals (natsI ns))).toArray).setCell ⟨w.heap.size, 8, none⟩ (.int .i64 ((g.length : Int) + (ns.length : Int))))) := by
      refine ⟨?_, (x0.2.1.rowOther (by omega) _).setOther (by omega) _ _, (below_setRow x0.2.2.1 (Nat.le_refl _) _).setCell (by simp) _⟩
      unfold IntT
      rw [heap_setCell_same _ _ _ _ _ _ y0, ← HROW.out]
      simp
    have HL2 : Hid ((rowI (g ++ ns)).length = 9) := rowI_length _ (by simp; omega)
    have hw : IntKind.i64.wrap ((g.length : Int) + (ns.length : Int)) = (g.length : Int) + (ns.length : Int) := by rw [IntKind.wrap_i64]; omega
    clear y0 hsp x0 HROW Z hf8
    refine held_take (v := ?v321) 0 rfl (by kernel_rfl) (by kernel_rfl) (by kernel_rfl) (fun _ _ _ h => h) (by rfl) ?y321 (by assumption) ?_
    case y321 => (intro w hSw; unfold PairS at hSw; go_simp; (try with_reducible rfl); (try omega))
    simp only [List.setIfInBounds_toArray, List.set_cons_zero, List.set_cons_succ]
    refine held_take (v := ?v324) 2 rfl (by kernel_rfl) (by kernel_rfl) (by kernel_rfl) (fun _ _ _ h => h) (by rfl) ?y324 (by assumption) ?_
    case y324 => (intro w hSw; unfold PairS at hSw; go_simp; (try with_reducible rfl); (try omega))
    simp only [List.setIfInBounds_toArray, List.set_cons_zero, List.set_cons_succ]
    refine held_take (v := ?v327) 3 rfl (by kernel_rfl) (by kernel_rfl) (by kernel_rfl) (fun _ _ _ h => h) (by rfl) ?y327 (by assumption) ?_
    case y327 => (intro w hSw; unfold PairS at hSw; go_simp; (try with_reducible rfl); (try omega))
    simp only [List.setIfInBounds_toArray, List.set_cons_zero, List.set_cons_succ]
    refine held_take (v := ?v330) 6 rfl (by kernel_rfl) (by kernel_rfl) (by kernel_rfl) (fun _ _ _ h => h) (by rfl) ?y330 (by assumption) ?_
    case y330 => (intro w hSw; unfold PairS at hSw; go_simp; (try with_reducible rfl); (try omega))
    simp only [List.setIfInBounds_toArray, List.set_cons_zero, List.set_cons_succ]
    refine wpAnyH_ready (rs := [1, 4]) (by kernel_rfl) (by simp) (AllReadyH.cons rfl (fun K hK => ?_) (AllReadyH.cons rfl (fun K hK => ?_) AllReadyH.nil))
    · rw [if_pos (by rfl)]
      go_simp
      refine hK.out _ _ trivial (fun _ => ?_)
      clear hK K
      refine held_one 4 rfl (by kernel_rfl) (by rfl) (fun K hK => ?_)
      go_simp
      refine hK.out _ _ trivial (fun _ => ?_)
      clear hK K
      refine held_one 5 rfl (by kernel_rfl) (by rfl) (fun K hK => ?_)
      go_simp
      refine hK.out _ _ trivial (fun _ => ?_)
      clear hK K
      refine held_one 7 rfl (by kernel_rfl) (by rfl) (fun K hK => ?_)
      refine wp_copy_set (.tmp 18) (.tmp 19) 65 65 rfl 3 Tryd.underlying65 sizeInt _ _ _ _ _ _ rfl rfl w.heap.size g.length (intVals (rowI g)) 78 X0.out.1 (intVals (natsI ns)) HMIN.out (fun _ => ⟨rfl, HSRC.out⟩) HFT.out (intVals_oneCell _) ?_
      simp only [HNL.out]
      refine hK.out _ _ trivial (fun _ => ?_)
      clear hK K
      simp only [Act.put, List.setIfInBounds_toArray, List.set_cons_zero, List.set_cons_succ]
      generalize X.setRow w.heap.size (splice (intVals (rowI g)) g.length (intVals (natsI ns))).toArray = Y at *
      refine held_one 8 rfl (by kernel_rfl) (by rfl) (fun K hK => ?_)
      go_simp
      refine hK.out _ _ trivial (fun _ => ?_)
      clear hK K
      refine held_one 9 rfl (by kernel_rfl) (by rfl) (fun K hK => ?_)
      go_simp
      refine hK.out _ _ trivial (fun _ => ?_)
      clear hK K
      refine held_none 10 rfl (by kernel_rfl) (by rfl) (fun K hK => ?_)
      go_simp
      refine hK.out _ _ trivial (fun _ => ?_)
      clear hK K
      refine wpAnyH_done (by kernel_rfl) ?_ _
      refine NoPanic.normal ?_
      go_wp2_with (first | (refine wpList_load_intT rfl (.tmp 2) rfl w.heap.size (rowI (g ++ ns)) (by rw [HL2.out]; exact row9) rfl (HY.out.1) ?_) | (refine wpList_store_intT rfl (.tmp 4) (.tmp 23) rfl (w.heap.size + 1) (rowI (g ++ ns)) (by rw [HL2.out]; exact row9) rowI0 rfl rfl (HY.out.2.1) (by rw [HL2.out]; rfl) ?_))
      exact bodyPost_ret (results_intT2 Tryd.results79 _ _ (w.heap.size + 1) (rowI (g ++ ns)) (by rw [HL2.out]; exact row9) rfl (intT_setRow HY.out.2.1 _)) rfl ⟨rfl, below_setRow HY.out.2.2 (by omega) _⟩
    · rw [if_pos (by rfl)]
      go_simp
      refine hK.out _ _ trivial (fun _ => ?_)
      clear hK K
      refine wpAnyH_ready (rs := [1, 5]) (by kernel_rfl) (by simp) (AllReadyH.cons rfl (fun K hK => ?_) (AllReadyH.cons rfl (fun K hK => ?_) AllReadyH.nil))
      · rw [if_pos (by rfl)]
        go_simp
        refine hK.out _ _ trivial (fun _ => ?_)
        clear hK K
        refine held_one 5 rfl (by kernel_rfl) (by rfl) (fun K hK => ?_)
        go_simp
        refine hK.out _ _ trivial (fun _ => ?_)
        clear hK K
        refine held_one 7 rfl (by kernel_rfl) (by rfl) (fun K hK => ?_)
        refine wp_copy_set (.tmp 18) (.tmp 19) 65 65 rfl 3 Tryd.underlying65 sizeInt _ _ _ _ _ _ rfl rfl w.heap.size g.length (intVals (rowI g)) 78 X0.out.1 (intVals (natsI ns)) HMIN.out (fun _ => ⟨rfl, HSRC.out⟩) HFT.out (intVals_oneCell _) ?_
        simp only [HNL.out]
        refine hK.out _ _ trivial (fun _ => ?_)
        clear hK K
        simp only [Act.put, List.setIfInBounds_toArray, List.set_cons_zero, List.set_cons_succ]
        generalize X.setRow w.heap.size (splice (intVals (rowI g)) g.length (intVals (natsI ns))).toArray = Y at *
        refine held_one 8 rfl (by kernel_rfl) (by rfl) (fun K hK => ?_)
        go_simp
        refine hK.out _ _ trivial (fun _ => ?_)
        clear hK K
        refine held_one 9 rfl (by kernel_rfl) (by rfl) (fun K hK => ?_)
        go_simp
        refine hK.out _ _ trivial (fun _ => ?_)
        clear hK K
        refine held_none 10 rfl (by kernel_rfl) (by rfl) (fun K hK => ?_)
        go_simp
        refine hK.out _ _ trivial (fun _ => ?_)
        clear hK K
        refine wpAnyH_done (by kernel_rfl) ?_ _
        refine NoPanic.normal ?_
        go_wp2_with (first | (refine wpList_load_intT rfl (.tmp 2) rfl w.heap.size (rowI (g ++ ns)) (by rw [HL2.out]; exact row9) rfl (HY.out.1) ?_) | (refine wpList_store_intT rfl (.tmp 4) (.tmp 23) rfl (w.heap.size + 1) (rowI (g ++ ns)) (by rw [HL2.out]; exact row9) rowI0 rfl rfl (HY.out.2.1) (by rw [HL2.out]; rfl) ?_))
        exact bodyPost_ret (results_intT2 Tryd.results79 _ _ (w.heap.size + 1) (rowI (g ++ ns)) (by rw [HL2.out]; exact row9) rfl (intT_setRow HY.out.2.1 _)) rfl ⟨rfl, below_setRow HY.out.2.2 (by omega) _⟩
      · rw [if_pos (by rfl)]
        go_simp
        refine hK.out _ _ trivial (fun _ => ?_)
        clear hK K
        refine wpAnyH_ready (rs := [1, 7]) (by kernel_rfl) (by simp) (AllReadyH.cons rfl (fun K hK => ?_) (AllReadyH.cons rfl (fun K hK => ?_) AllReadyH.nil))
        · rw [if_pos (by rfl)]
          go_simp
          refine hK.out _ _ trivial (fun _ => ?_)
          clear hK K
          refine held_one 7 rfl (by kernel_rfl) (by rfl) (fun K hK => ?_)
          refine wp_copy_set (.tmp 18) (.tmp 19) 65 65 rfl 3 Tryd.underlying65 sizeInt _ _ _ _ _ _ rfl rfl w.heap.size g.length (intVals (rowI g)) 78 X0.out.1 (intVals (natsI ns)) HMIN.out (fun _ => ⟨rfl, HSRC.out⟩) HFT.out (intVals_oneCell _) ?_
          simp only [HNL.out]
          refine hK.out _ _ trivial (fun _ => ?_)
          clear hK K
          simp only [Act.put, List.setIfInBounds_toArray, List.set_cons_zero, List.set_cons_succ]
          generalize X.setRow w.heap.size (splice (intVals (rowI g)) g.length (intVals (natsI ns))).toArray = Y at *
          refine held_one 8 rfl (by kernel_rfl) (by rfl) (fun K hK => ?_)
          go_simp
          refine hK.out _ _ trivial (fun _ => ?_)
          clear hK K
          refine held_one 9 rfl (by kernel_rfl) (by rfl) (fun K hK => ?_)
          go_simp
          refine hK.out _ _ trivial (fun _ => ?_)
          clear hK K
          refine held_none 10 rfl (by kernel_rfl) (by rfl) (fun K hK => ?_)
          go_simp
          refine hK.out _ _ trivial (fun _ => ?_)
          clear hK K
          refine wpAnyH_done (by kernel_rfl) ?_ _
          refine NoPanic.normal ?_
          go_wp2_with (first | (refine wpList_load_intT rfl (.tmp 2) rfl w.heap.size (rowI (g ++ ns)) (by rw [HL2.out]; exact row9) rfl (HY.out.1) ?_) | (refine wpList_store_intT rfl (.tmp 4) (.tmp 23) rfl (w.heap.size + 1) (rowI (g ++ ns)) (by rw [HL2.out]; exact row9) rowI0 rfl rfl (HY.out.2.1) (by rw [HL2.out]; rfl) ?_))
          exact bodyPost_ret (results_intT2 Tryd.results79 _ _ (w.heap.size + 1) (rowI (g ++ ns)) (by rw [HL2.out]; exact row9) rfl (intT_setRow HY.out.2.1 _)) rfl ⟨rfl, below_setRow HY.out.2.2 (by omega) _⟩
        · rw [if_pos (by rfl)]
          refine wp_copy_set (.tmp 18) (.tmp 19) 65 65 rfl 3 Tryd.underlying65 sizeInt _ _ _ _ _ _ rfl rfl w.heap.size g.length (intVals (rowI g)) 78 X0.out.1 (intVals (natsI ns)) HMIN.out (fun _ => ⟨rfl, HSRC.out⟩) HFT.out (intVals_oneCell _) ?_
          simp only [HNL.out]
          refine hK.out _ _ trivial (fun _ => ?_)
          clear hK K
          simp only [Act.put, List.setIfInBounds_toArray]
          generalize X.setRow w.heap.size (splice (intVals (rowI g)) g.length (intVals (natsI ns))).toArray = Y at *
          refine held_one 1 rfl (by kernel_rfl) (by rfl) (fun K hK => ?_)
          go_simp
          refine hK.out _ _ trivial (fun _ => ?_)
          clear hK K
          refine held_one 8 rfl (by kernel_rfl) (by rfl) (fun K hK => ?_)
          go_simp
          refine hK.out _ _ trivial (fun _ => ?_)
          clear hK K
          refine held_one 9 rfl (by kernel_rfl) (by rfl) (fun K hK => ?_)
          go_simp
          refine hK.out _ _ trivial (fun _ => ?_)
          clear hK K
          refine held_none 10 rfl (by kernel_rfl) (by rfl) (fun K hK => ?_)
          go_simp
          refine hK.out _ _ trivial (fun _ => ?_)
          clear hK K
          refine wpAnyH_done (by kernel_rfl) ?_ _
          refine NoPanic.normal ?_
          go_wp2_with (first | (refine wpList_load_intT rfl (.tmp 2) rfl w.heap.size (rowI (g ++ ns)) (by rw [HL2.out]; exact row9) rfl (HY.out.1) ?_) | (refine wpList_store_intT rfl (.tmp 4) (.tmp 23) rfl (w.heap.size + 1) (rowI (g ++ ns)) (by rw [HL2.out]; exact row9) rowI0 rfl rfl (HY.out.2.1) (by rw [HL2.out]; rfl) ?_))
          exact bodyPost_ret (results_intT2 Tryd.results79 _ _ (w.heap.size + 1) (rowI (g ++ ns)) (by rw [HL2.out]; exact row9) rfl (intT_setRow HY.out.2.1 _)) rfl ⟨rfl, below_setRow HY.out.2.2 (by omega) _⟩
  · rw [withO_no hfit]
    have hgt : (8 : Int) - (g.length : Int) < (ns.length : Int) := by omega
    go_enter Tryd.func79, Tryd.ntmps79
    go_wp2_with (refine wpList_store_intT rfl (.tmp 4) (.tmp 12) rfl (w.heap.size + 1) rowI0 row9 rowI0 rfl rfl Z.out.2.1 rfl ?_)
    exact bodyPost_ret (results_intT2 Tryd.results79 _ _ (w.heap.size + 1) rowI0 row9 rfl (intT_setRow Z.out.2.1 _)) rfl ⟨rfl, below_setRow Z.out.2.2.1 (by omega) _⟩
theorem isI_built (w : World) (l : List Int) (cs : Array Value) (hcs : cs = (intVals l).toArray) (hm : l.length ≤ 1000) :
    IsI (w.alloc (.cells cs 3)) (.slice (some ⟨w.heap.size, 0, none⟩) l.length l.length) l := by
  subst hcs
  have h : IntT 3 (w.alloc (.cells (intVals l).toArray 3)) w.heap.size l := intT_new w l
  refine ⟨some ⟨w.heap.size, 0, none⟩, l.length, rfl, Nat.le_refl _, by unfold maxLen; omega, fun _ => ⟨w.heap.size, 0, rfl, h.lt, fun i hi => ?_⟩⟩
  rw [Nat.zero_add]
  exact h.cell i hi
theorem withO_length (g ns : List Nat) : (rdV (withO g ns)).length = 9 := by
  unfold withO
  split
  · rename_i h
    exact rowI_length _ (by rw [List.length_append]; exact h)
  · rfl
/-- With the group of a text behind. -/
def withG (g : List Nat) (p : List UInt8) : Option (List Nat) :=
  match grpOf p with
  | some n => withO g [n]
  | none => none
theorem withG_some {g : List Nat} {p : List UInt8} (h : (grpOf p).isSome = true) : withG g p = withO g [grpV p] := by
  obtain ⟨n, hn⟩ := Option.isSome_iff_exists.1 h
  unfold withG grpV
  rw [hn]
  rfl
theorem withG_none {g : List Nat} {p : List UInt8} (h : (grpOf p).isSome = false) : withG g p = none := by
  unfold withG
  cases hg : grpOf p with
  | none => rfl
  | some n => rw [hg] at h; cases h
set_option maxRecDepth 100000 in
set_option maxHeartbeats 4000000 in
theorem withGroup_any (g : List Nat) (s : ByteArray) (w : World) (hg : g.length ≤ 8) (hs : s.size ≤ 1000000) :
    Calls Tryd.prog 78 #[intV (rowI g), .string s] w fun r w' => r = .returned (.tuple #[intV (rdV (withG g s.data.toList)), .bool (withG g s.data.toList).isSome]) ∧ Below w.heap.size w w' := by
  generalize hW : ((w.alloc (.cells (intVals (rowI g)).toArray 78)).alloc (.cells (intVals rowI0).toArray 78)) = W
  have z0 : IntT 78 W w.heap.size (rowI g) := by rw [← hW]; exact (intT_new w _).allocO _
  have z1 : IntT 78 W (w.heap.size + 1) rowI0 := by
    have := intT_new (t := 78) (w.alloc (.cells (intVals (rowI g)).toArray 78)) rowI0
    rw [World.size_alloc, hW] at this
    exact this
  have zb : Below w.heap.size w W := by rw [← hW]; exact ((Below.refl _ _).alloc (Nat.le_refl _) _).alloc (by simp) _
  have Z := Lib.hid (And.intro z0 (And.intro z1 zb))
  have HRL := Lib.hid (rowI_length g hg)
  rw [← hW, ← zero9] at Z
  clear hW z0 z1 zb
  clear W
  have hG := fun W => group_any s W hs
  rw [show intV (rowI g) = .agg (intVals (rowI g)).toArray from rfl]
  cases hq : (grpOf s.data.toList).isSome with
  | false =>
    rw [withG_none hq]
    have hv : grpV s.data.toList = 0 := by
      unfold grpV
      cases h : grpOf s.data.toList with
      | none => rfl
      | some n => rw [h] at hq; cases hq
    rw [hq, hv] at hG
    have HG := Lib.hid hG
    clear hG hv hq
    go_enter Tryd.func78, Tryd.ntmps78
    go_wp2_with (first | (go_at_call 87; refine (HG.out _).mono ?_; rintro e w1 ⟨rfl, b1⟩) | (refine wpList_store_intT rfl (.tmp 4) (.tmp 15) rfl (w.heap.size + 1) rowI0 row9 rowI0 rfl rfl (Z.out.2.1.up b1) rfl ?_))
    exact bodyPost_ret (results_intT2 Tryd.results78 _ _ (w.heap.size + 1) rowI0 row9 rfl (intT_setRow (Z.out.2.1.up b1) _)) rfl ⟨rfl, below_setRow (below_up Z.out.2.2 b1 Z.out.2.2.size) (by omega) _⟩
  | true =>
    rw [withG_some hq]
    rw [hq] at hG
    have HG := Lib.hid hG
    clear hG hq
    generalize grpV s.data.toList = n at *
    have HWL := Lib.hid (withO_length g [n])
    have HWT := Lib.hid (fun (W : World) (a : Option Addr) (k cap : Nat) (h : IsI W (.slice a k cap) (natsI [n])) => with_any g [n] a k cap W hg h (by simp) (by simp))
    generalize rdV (withO g [n]) = R at *
    generalize (withO g [n]).isSome = b at *
    go_enter Tryd.func78, Tryd.ntmps78
    go_wp2_with (first | (go_at_call 87; refine (HG.out _).mono ?_; rintro e w1 ⟨rfl, b1⟩) | (refine wpList_load_intT rfl (.tmp 2) rfl w.heap.size (rowI g) (by rw [HRL.out]; exact row9) rfl (Z.out.1.up b1) ?_) | (go_at_call 79; refine (HWT.out _ _ _ _ (isI_built w1 (natsI [n]) _ rfl (by simp [natsI]))).mono ?_; rintro e w2 ⟨rfl, b2⟩; refine Hid.out ?_))
    refine Lib.hid ?_
    have hw2 : IntT 78 w2 (w.heap.size + 1) rowI0 ∧ Below w.heap.size w w2 := by
      have h1 := below_up Z.out.2.2 b1 Z.out.2.2.size
      have h2 := h1.alloc h1.size (.cells #[.int .i64 (n : Int)] 3)
      exact ⟨((Z.out.2.1.up b1).allocO _).up b2, below_up h2 b2 h2.size⟩
    have HW2 := Lib.hid hw2
    clear hw2 b1 b2 Z
    go_wp2_with (refine wpList_store_intT rfl (.tmp 4) (.tmp 20) rfl (w.heap.size + 1) R (by rw [HWL.out]; exact row9) rowI0 rfl rfl HW2.out.1 (by rw [HWL.out]; rfl) ?_)
    exact bodyPost_ret (results_intT2 Tryd.results78 _ _ (w.heap.size + 1) R (by rw [HWL.out]; exact row9) rfl (intT_setRow HW2.out.1 _)) rfl ⟨rfl, below_setRow HW2.out.2 (by omega) _⟩
end Go.Proofs.YtlbgmpjeckigjaaDoor

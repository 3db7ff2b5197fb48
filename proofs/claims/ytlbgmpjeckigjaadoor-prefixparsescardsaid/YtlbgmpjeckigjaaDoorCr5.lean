/- The document's Parse of layer 7. Proved: what it returns. -/
import Derived.Test.YtlbgmpjeckigjaaDoorCrB
namespace Go.Proofs.YtlbgmpjeckigjaaDoor
open Go Go.RowKit

def pairAt (l : List UInt8) (k : Nat) : Bool := decide (byteAt l k = 58) && decide (byteAt l (k + 1) = 58)
def ccTo (l : List UInt8) : Nat → Option Nat
  | 0 => none
  | k + 1 => match ccTo l k with
    | some j => some j
    | none => if pairAt l k then some k else none
def atI : Option Nat → Int
  | some k => (k : Int)
  | none => -1
theorem byteAt_succ (a : UInt8) (l : List UInt8) (i : Nat) : byteAt (a :: l) (i + 1) = byteAt l i := rfl
theorem byteAt_zero (a : UInt8) (l : List UInt8) : byteAt (a :: l) 0 = (a.toNat : Int) := rfl
theorem is58 (a : UInt8) : (a.toNat : Int) = 58 ↔ a = 58 := by
  constructor
  · intro h
    exact UInt8.toNat_inj.1 (show a.toNat = 58 by omega)
  · intro h; subst h; rfl
theorem pairAt_succ (a : UInt8) (l : List UInt8) (i : Nat) : pairAt (a :: l) (i + 1) = pairAt l i := rfl
theorem cc_none_of : ∀ l : List UInt8, (∀ i, i + 1 < l.length → pairAt l i = false) → cc l = none
  | [], _ => rfl
  | [_], _ => rfl
  | a :: b :: l, h => by
    have h0 := h 0 (by simp)
    have hn : ¬ (a = 58 ∧ b = 58) := fun e => by
      obtain ⟨rfl, rfl⟩ := e
      cases h0
    rw [cc, if_neg hn, cc_none_of (b :: l) (fun i hi => by have := h (i + 1) (by simp at hi ⊢; omega); rwa [pairAt_succ] at this)]
    rfl
theorem cc_some_of : ∀ (l : List UInt8) (j : Nat), j + 1 < l.length → pairAt l j = true → (∀ i, i < j → pairAt l i = false) → cc l = some j
  | [], j, h, _, _ => by simp at h
  | [_], j, h, _, _ => by simp at h
  | a :: b :: l, 0, _, h1, _ => by
    unfold pairAt at h1
    simp only [Bool.and_eq_true, decide_eq_true_eq] at h1
    have e1 := (is58 a).1 h1.1
    have e2 := (is58 b).1 h1.2
    rw [cc, if_pos ⟨e1, e2⟩]
  | a :: b :: l, j + 1, h, h1, h2 => by
    have h0 := h2 0 (by omega)
    have hn : ¬ (a = 58 ∧ b = 58) := fun e => by
      obtain ⟨rfl, rfl⟩ := e
      cases h0
    rw [cc, if_neg hn, cc_some_of (b :: l) j (by simp at h ⊢; omega) (by rwa [pairAt_succ] at h1) (fun i hi => by have := h2 (i + 1) (by omega); rwa [pairAt_succ] at this)]
    rfl
theorem ccTo_spec (l : List UInt8) : ∀ k, (ccTo l k = none ∧ ∀ i, i < k → pairAt l i = false) ∨ ∃ j, ccTo l k = some j ∧ j < k ∧ pairAt l j = true ∧ ∀ i, i < j → pairAt l i = false
  | 0 => .inl ⟨rfl, fun i hi => by omega⟩
  | k + 1 => by
    rcases ccTo_spec l k with ⟨h1, h2⟩ | ⟨j, h1, h2, h3, h4⟩
    · cases hp : pairAt l k with
      | true => exact .inr ⟨k, by rw [ccTo, h1]; simp [hp], by omega, hp, h2⟩
      | false =>
        refine .inl ⟨by rw [ccTo, h1]; simp [hp], fun i hi => ?_⟩
        by_cases e : i = k
        · rw [e]; exact hp
        · exact h2 i (by omega)
    · exact .inr ⟨j, by rw [ccTo, h1], by omega, h3, h4⟩
theorem pairAt_lt {l : List UInt8} {j : Nat} (h : pairAt l j = true) : j + 1 < l.length := by
  rcases Nat.lt_or_ge (j + 1) l.length with hl | hl
  · exact hl
  · unfold pairAt at h
    have : byteAt l (j + 1) = 0 := by unfold byteAt; rw [List.getD, List.getElem?_eq_none hl]; rfl
    rw [this] at h
    simp at h
theorem ccTo_cc (l : List UInt8) (k : Nat) (hk : l.length ≤ k + 1) : ccTo l k = cc l := by
  rcases ccTo_spec l k with ⟨h1, h2⟩ | ⟨j, h1, h2, h3, h4⟩
  · rw [h1, cc_none_of l (fun i hi => h2 i (by omega))]
  · rw [h1, cc_some_of l j (pairAt_lt h3) h3 h4]
theorem extract_two (s : ByteArray) (l : List UInt8) (hl : s.data.toList = l) (k : Nat) (hk : k + 1 < l.length) : (s.extract k (k + 2)).data.toList = [l.getD k 0, l.getD (k + 1) 0] := by
  have e1 : l.drop k = l[k] :: l[k + 1] :: l.drop (k + 1 + 1) := by rw [List.drop_eq_getElem_cons (show k < l.length by omega), List.drop_eq_getElem_cons hk]
  have e2 : l[k] = l.getD k 0 := by simp [List.getD, show k < l.length by omega]
  have e3 : l[k + 1] = l.getD (k + 1) 0 := by simp [List.getD, hk]
  rw [part_extract, hl, show k + 2 - k = 2 by omega, e1, e2, e3]
  rfl
theorem extract_pair (s : ByteArray) (l : List UInt8) (hl : s.data.toList = l) (k : Nat) (hk : k + 1 < l.length) : decide ((s.extract k (k + 2)).data.toList = [58, 58]) = pairAt l k := by
  rw [extract_two s l hl k hk]
  unfold pairAt byteAt
  have e1 := is58 (l.getD k 0)
  have e2 := is58 (l.getD (k + 1) 0)
  rw [Bool.eq_iff_iff]
  simp only [decide_eq_true_eq, Bool.and_eq_true, List.cons.injEq, and_true, e1, e2]
theorem cc_lt {l : List UInt8} {j : Nat} (h : cc l = some j) : j + 1 < l.length := by
  rw [← ccTo_cc l l.length (by omega)] at h
  rcases ccTo_spec l l.length with ⟨h1, _⟩ | ⟨i, h1, _, h3, _⟩
  · rw [h1] at h; cases h
  · rw [h1] at h; cases h; exact pairAt_lt h3
theorem colW_bad {l : List UInt8} (hc : cc l = none) (h : rowV l true = none) : colV l = none := by
  unfold colV; rw [hc]; simp only [h]
theorem colW_few {l : List UInt8} {g : List Nat} (hc : cc l = none) (h : rowV l true = some g) (hg : g.length ≠ 8) : colV l = none := by
  unfold colV; rw [hc]; simp only [h]; rw [if_neg hg]
theorem colW_all {l : List UInt8} {g : List Nat} (hc : cc l = none) (h : rowV l true = some g) (hg : g.length = 8) : colV l = some g := by
  unfold colV; rw [hc]; simp only [h]; rw [if_pos hg]
theorem colW_cut1 {l : List UInt8} {k : Nat} (hc : cc l = some k) (h : rowV (l.take k) false = none) : colV l = none := by
  unfold colV; rw [hc]; simp only [h]
theorem colW_cut2 {l : List UInt8} {k : Nat} (hc : cc l = some k) (h : rowV (l.drop (k + 2)) true = none) : colV l = none := by
  unfold colV; rw [hc]; simp only [h]
  cases rowV (l.take k) false <;> rfl
theorem colW_cutM {l : List UInt8} {k : Nat} {a b : List Nat} (hc : cc l = some k) (ha : rowV (l.take k) false = some a) (hb : rowV (l.drop (k + 2)) true = some b) (h : ¬ a.length + b.length ≤ 7) : colV l = none := by
  unfold colV; rw [hc]; simp only [ha, hb]; rw [if_neg h]
theorem colW_cut {l : List UInt8} {k : Nat} {a b : List Nat} (hc : cc l = some k) (ha : rowV (l.take k) false = some a) (hb : rowV (l.drop (k + 2)) true = some b) (h : a.length + b.length ≤ 7) : colV l = some (bothG a b) ∧ ∀ n ∈ bothG a b, n ≤ 65535 := by
  refine ⟨by unfold colV; rw [hc]; simp only [ha, hb]; rw [if_pos h]; rfl, fun n hn => ?_⟩
  unfold bothG at hn
  rcases List.mem_append.1 hn with hn | hn
  · rcases List.mem_append.1 hn with hn | hn
    · exact rowV_le ha n hn
    · rw [List.eq_of_mem_replicate hn]; omega
  · exact rowV_le hb n hn
theorem splitF_len (d : UInt8) : ∀ (l cur : List UInt8), (splitF d cur l).length ≤ l.length + 1
  | [], cur => by simp [splitF]
  | b :: l, cur => by
    by_cases h : b = d
    · subst h
      have := splitF_len b l []
      rw [splitF_sign]
      simp only [List.length_cons]
      omega
    · have := splitF_len d l (cur ++ [b])
      rw [splitF_byte d b cur l h]
      simp only [List.length_cons]
      omega
theorem rowP_len (last : Bool) : ∀ (ps : List (List UInt8)) (l : List Nat), rowP last ps = some l → l.length ≤ ps.length + 1
  | [], l, h => by cases h; simp
  | [p], l, h => by
    unfold rowP at h
    split at h
    · cases h; simp
    · split at h
      · cases h; simp
      · cases h
  | p :: q :: r, l, h => by
    unfold rowP at h
    split at h
    · cases hr : rowP last (q :: r) with
      | none => rw [hr] at h; cases h
      | some l' =>
        rw [hr] at h
        cases h
        have := rowP_len last (q :: r) l' hr
        simp only [List.length_cons] at *
        omega
    · cases h
theorem rowV_small (l : List UInt8) (last : Bool) : ((rowV l last).getD []).length ≤ l.length + 2 := by
  cases h : rowV l last with
  | none => simp
  | some g =>
    show g.length ≤ l.length + 2
    unfold rowV at h
    split at h
    · cases h; simp
    · have h1 := rowP_len last _ g h
      have h2 := splitF_len 58 l []
      omega
theorem ownI_isI {w : World} {base : Nat} {a : Option Addr} {n cap : Nat} {l : List Int} (h : w.ownsRow base 3 1 (.slice a n cap) n (intVals l)) : IsI w (.slice a n cap) l := by
  obtain ⟨a', n', cap', he, hI⟩ := ownI_shape h
  simp only [Value.slice.injEq] at he
  obtain ⟨rfl, rfl, rfl⟩ := he
  exact hI
theorem gfill_set2 (g : List Nat) (k : Nat) (hk : k < g.length) (hl : g.length ≤ 8) : (gfill g k).set k ((g.getD k 0 : Nat) : Int) = gfill g (k + 1) := by
  unfold gfill natsI
  have e1 : ((g.take k).map Int.ofNat).length = k := by simp; omega
  have e2 : g.take (k + 1) = g.take k ++ [g.getD k 0] := by
    rw [List.take_add_one]
    simp [List.getD, hk]
  rw [List.set_append, if_neg (by rw [e1]; omega), show 8 - k = (8 - (k + 1)) + 1 by omega, List.replicate_succ, e1, Nat.sub_self, List.set_cons_zero, e2, List.map_append, List.append_assoc]
  rfl
theorem gfill_length2 (g : List Nat) (k : Nat) (hk : k ≤ g.length) (hl : g.length ≤ 8) : (gfill g k).length = 8 := by simp [gfill, natsI]; omega
theorem gfill_fill8 (g : List Nat) : gfill g g.length = fill8 g := by
  unfold gfill fill8 natsI
  rw [List.take_of_length_le (Nat.le_refl _)]
theorem splice_set (L : List Int) (off : Nat) (cs : List Int) (x : Int) (h : off + cs.length < L.length) : (splice L off cs).set (off + cs.length) x = splice L off (cs ++ [x]) := by
  unfold splice
  have e1 : (L.take off).length = off := by simp; omega
  rw [List.set_append, if_neg (by rw [e1]; omega), e1, show off + cs.length - off = cs.length by omega, List.set_append, if_neg (by omega), Nat.sub_self, List.length_append, List.length_cons, List.length_nil, List.drop_eq_getElem_cons h, List.set_cons_zero, List.append_assoc]
  rfl
theorem both_spliceI (a b : List Nat) (h : a.length + b.length ≤ 7) : splice (fill8 a) (8 - b.length) (natsI b) = natsI (bothG a b) := by
  unfold splice bothG fill8 natsI
  have e : (List.map Int.ofNat a).length = a.length := by simp
  rw [List.take_append, List.take_of_length_le (by rw [e]; omega), List.drop_of_length_le (by simp; omega), List.append_nil, e, List.take_replicate, List.map_append, List.map_append, List.map_replicate]
  rw [show min (8 - b.length - a.length) (8 - a.length) = 8 - a.length - b.length by omega]
  rfl
theorem splice_none (L : List Int) (off : Nat) : splice L off [] = L := by simp [splice]
/-- The boxes of the document's Parse. -/
def ParS (w : World) (L : List Int) (W : World) : Prop := ArrT 22 W w.heap.size (List.replicate 16 0) ∧ IntT 60 W (w.heap.size + 1) L ∧ Below w.heap.size w W
theorem ParS.up {w : World} {L : List Int} {W W' : World} (h : ParS w L W) (hb : Below W.heap.size W W') : ParS w L W' := ⟨h.1.up hb, h.2.1.up hb, below_up h.2.2 hb h.2.2.size⟩
theorem ParS.lt {w : World} {L : List Int} {W : World} (h : ParS w L W) : w.heap.size + 1 < W.heap.size := h.2.1.lt
theorem ParS.set {w : World} {L : List Int} {W : World} (h : ParS w L W) (i : Nat) (x : Int) : ParS w (L.set i x) (W.setCell ⟨w.heap.size + 1, i, none⟩ (.int .i64 x)) := ⟨h.1.setOther (by omega) _ _, h.2.1.store i x, h.2.2.setCell (by simp) _⟩
theorem ownI_set {w W : World} {base n : Nat} {v : Value} {xs : List Value} (h : W.ownsRow base 3 1 v n xs) (hb : w.heap.size + 1 < base) (i : Nat) (x : Value) : (W.setCell ⟨w.heap.size + 1, i, none⟩ x).ownsRow base 3 1 v n xs :=
  ownI_other h (fun k _ hk => Below.heap_setCell W _ x k (by show k ≠ w.heap.size + 1; omega))
theorem wpList_copy_setI {P : Program} {w : World} {ops : Array Oper} {rest : List Oper} {o : Oper} {a : Act} {Q : Exit → Act → World → Prop} (hgd : o.guard = none) (d s : Operand) (dT sT : TypeId)
    (ho : o.op = .call { callee := .builtin .copy, args := #[d, s], argTypes := #[dT, sT] }) (elem : TypeId) (hu : P.underlying dT = some (.slice elem)) (hsz : (P.info? elem).map (·.size) = some 1)
    (dp sp : Option Addr) (dLen dCap sLen sCap : Nat) (hd : a.eval d = .slice dp dLen dCap) (hs : a.eval s = .slice sp sLen sCap)
    (g off : Nat) (cur : List Value) (t : TypeId) (hg : w.heap[g]? = some (.cells cur.toArray t (0, 0))) (cs : List Value) (hn : cs.length = Nat.min sLen dLen)
    (hpos : 0 < cs.length → dp = some ⟨g, off, none⟩ ∧ ∃ ad, sp = some ad ∧ ∀ j v, cs[j]? = some v → w.cell? (ad.add j) = some v)
    (hfit : off + cs.length ≤ cur.length) (h1 : ∀ v ∈ cs, v.oneCell' = true)
    (h : wpList P ops Q rest (a.put o.dst (goInt cs.length)) (w.setRow g (splice cur off cs).toArray)) : wpList P ops Q (o :: rest) a w :=
  wpList_plain hgd fun _ hK => wp_copy_set d s dT sT ho elem hu hsz dp sp dLen dCap sLen sCap hd hs g off cur t hg cs hn hpos hfit h1 (hK _ _ h)
set_option maxRecDepth 100000 in
set_option maxHeartbeats 8000000 in
theorem rparse7_any (s : ByteArray) (l : List UInt8) (hl : s.data.toList = l) (w : World) (hs : s.size ≤ 400000) :
    Calls Tryd.prog 45 #[.string s] w fun r w' => r = .returned (.tuple #[arrV (colA l), .bool (colV l).isSome]) ∧ Below w.heap.size w w' := by
  have hll : l.length = s.size := by rw [← hl]; rfl
  have HEX := Lib.hid (extract_pair s l hl)
  have HLL := Lib.hid hll
  have HL := Lib.hid hl
  generalize hW : ((w.alloc (.cells (byteVals (List.replicate 16 0)).toArray 22)).alloc (.cells (intVals [0, 0, 0, 0, 0, 0, 0, 0]).toArray 60)) = W
  have Z : Hid (ParS w [0, 0, 0, 0, 0, 0, 0, 0] W) := by
    show ParS w [0, 0, 0, 0, 0, 0, 0, 0] W
    rw [← hW]
    refine ⟨(arrT_new w _).allocO _, ?_, ((Below.refl _ _).alloc (Nat.le_refl _) _).alloc (by simp) _⟩
    have := intT_new (t := 60) (w.alloc (.cells (byteVals (List.replicate 16 0)).toArray 22)) [0, 0, 0, 0, 0, 0, 0, 0]
    rw [World.size_alloc] at this
    exact this
  rw [← hW, ← zero8, ← zero16'] at Z
  clear hll hl hW
  clear W
  go_enter Tryd.func45, Tryd.ntmps45
  go_wp2
  go_loop [4, 5] (fun a i => ∃ k : Nat, i = .int .i64 (k : Int) ∧ (k = 0 ∨ k + 1 ≤ l.length) ∧ a = .int .i64 (atI (ccTo l k))) (fun _ i => s.size - (intOf i).toNat)
  case atStart => exact ⟨0, rfl, .inl rfl, rfl⟩
  case round =>
    obtain ⟨k, rfl, hk, rfl⟩ := hrel
    by_cases hlt : k + 1 < s.size
    · have hlt' : (k : Int) + 1 < (s.size : Int) := by omega
      have hex := HEX.out k (by rw [HLL.out]; exact hlt)
      rw [← ByteArray.toList_eq] at hex
      have hkl : k + 2 ≤ l.length := by rw [HLL.out]; omega
      have hst : ccTo l (k + 1) = match ccTo l k with | some j => some j | none => if pairAt l k then some k else none := rfl
      cases hcc : ccTo l k with
      | some j =>
        rw [hcc] at hst
        have HST := Lib.hid hst
        have ha : ¬ (j : Int) < 0 := by omega
        simp only [atI]
        clear hst hcc hex
        by_cases hx : (s.extract k (k + 2)).toList = [58, 58]
        · go_wp2
          go_round
          case rel => exact ⟨k + 1, by go_num, .inr (by omega), by rw [HST.out]⟩
          case measure => simp [intOf]; omega
        · go_wp2
          go_round
          case rel => exact ⟨k + 1, by go_num, .inr (by omega), by rw [HST.out]⟩
          case measure => simp [intOf]; omega
      | none =>
        rw [hcc] at hst
        simp only [atI]
        by_cases hx : (s.extract k (k + 2)).toList = [58, 58]
        · rw [decide_eq_true hx] at hex
          rw [← hex] at hst
          have HST := Lib.hid hst
          clear hst hcc hex
          go_wp2
          go_round
          case rel => exact ⟨k + 1, by go_num, .inr (by omega), by rw [HST.out]; rfl⟩
          case measure => simp [intOf]; omega
        · rw [decide_eq_false hx] at hex
          rw [← hex] at hst
          have HST := Lib.hid hst
          clear hst hcc hex
          go_wp2
          go_round
          case rel => exact ⟨k + 1, by go_num, .inr (by omega), by rw [HST.out]; rfl⟩
          case measure => simp [intOf]; omega
    · have hlt' : ¬ (k : Int) + 1 < (s.size : Int) := by omega
      have hkb : k ≤ 400000 := by
        rcases hk with h | h
        · omega
        · rw [HLL.out] at h; omega
      rw [ccTo_cc l k (by rw [HLL.out]; omega)]
      clear HEX
      cases hc : cc l with
      | none =>
        simp only [atI]
        have hR := fun W => rrow_any s l HL.out true W hs
        cases hr : rowV l true with
        | none =>
          have e := colW_bad hc hr
          have HNO : Hid (colV l = none ∧ colA l = List.replicate 16 0) := ⟨e, colA_no e⟩
          rw [hr] at hR
          have HR := Lib.hid hR
          clear hR e hc hr
          go_wp2_with (first | (go_at_call 60; refine (HR.out _).mono ?_; rintro e w2 ⟨⟨a', c', rfl, o'⟩, b2⟩; refine Hid.out ?_))
          refine Lib.hid ?_
          have Z2 := Lib.hid (Z.out.up b2)
          clear b2 Z o'
          go_wp2_with (refine wpList_store_arrT rfl (.tmp 2) (.tmp 47) rfl w.heap.size (List.replicate 16 0) arr16 (List.replicate 16 0) rfl rfl Z2.out.1 rfl ?_)
          exact bodyPost_ret (results_arrT2 Tryd.results45 _ _ w.heap.size (List.replicate 16 0) arr16 rfl (arrT_setRow Z2.out.1 _)) rfl ⟨by rw [HNO.out.1, HNO.out.2]; rfl, below_setRow Z2.out.2.2 (Nat.le_refl _) _⟩
        | some g =>
          rw [hr] at hR
          have HR := Lib.hid hR
          clear hR
          by_cases h8 : g.length = 8
          · have e := colW_all hc hr h8
            have hle := rowV_le hr
            have hOF := fun W => rof_any (natsI g) W (by rw [natsI_length]; exact h8) (natsI_range g hle h8)
            rw [okI_nats g hle, ofL_nats g hle] at hOF
            have HOF := Lib.hid hOF
            have HYES : Hid (colA l = ofB (natsI g) ∧ colV l = some g) := ⟨colA_yes e, e⟩
            have HNL : Hid ((natsI g).length = 8) := by show _ = _; rw [natsI_length]; exact h8
            have HOL : Hid ((ofB (natsI g)).length = 16) := by show _ = _; rw [ofB_length, natsI_length, h8]
            have HGL := Lib.hid h8
            have h8' : (g.length : Int) = 8 := by omega
            have h8n : ((g.length : Int) != 8) = false := by simp [h8']
            have hsl := fun W => slice_all ints8.row size_int W (w.heap.size + 1)
            clear hOF e hle hr hc h8
            generalize ofB (natsI g) = D at *
            go_wp2_with (first | (go_at_call 60; refine (HR.out _).mono ?_; rintro e w2 ⟨⟨a', c', rfl, o'⟩, b2⟩; refine Hid.out ?_))
            refine Lib.hid ?_
            have Z2 := Lib.hid (Z.out.up b2)
            have HSRC := Lib.hid ((ownI_isI o').src (by show 0 < (natsI g).length; rw [HNL.out]; omega))
            have HGL2 : Hid (((some g).getD []).length = 8) := HGL.out
            have hgd8 : (((some g).getD []).length : Int) = 8 := by rw [HGL2.out]; rfl
            clear b2 Z o'
            go_wp2_with (first | (refine wpList_copy_setI rfl (.tmp 48) (.tmp 49) 65 65 rfl 3 Tryd.underlying65 sizeInt _ _ _ _ _ _ rfl rfl (w.heap.size + 1) 0 (intVals [0, 0, 0, 0, 0, 0, 0, 0]) 60 Z2.out.2.1 (intVals (natsI g)) (by rw [intVals_length, HNL.out]; first | rfl | (rw [HGL2.out]; rfl) | (rw [HGL.out]; rfl)) (fun _ => ⟨rfl, HSRC.out⟩) (by rw [intVals_length, HNL.out]; exact Nat.le_refl _) (intVals_oneCell _) (Hid.out ?_)))
            refine Lib.hid ?_
            have hsp : splice (intVals [0, 0, 0, 0, 0, 0, 0, 0]) 0 (intVals (natsI g)) = intVals (natsI g) := by
              unfold splice
              rw [List.take_zero, List.nil_append, Nat.zero_add, intVals_length, HNL.out]
              exact List.append_nil _
            rw [hsp]
            have Z3 : Hid (ParS w (natsI g) (w2.setRow (w.heap.size + 1) (intVals (natsI g)).toArray)) := ⟨Z2.out.1.rowOther (by omega) _, intT_setRow Z2.out.2.1 _, below_setRow Z2.out.2.2 (by omega) _⟩
            clear hsp Z2 HSRC
            generalize w2.setRow (w.heap.size + 1) (intVals (natsI g)).toArray = W3 at *
            generalize natsI g = GG at *
            go_wp2_with (first | (refine wpList_load_intT rfl (.tmp 6) rfl (w.heap.size + 1) GG (by rw [HNL.out]; exact ints8.isRow) rfl Z3.out.2.1 ?_) | (go_at_call 61; refine (HOF.out _).mono ?_; rintro e w4 ⟨rfl, b4⟩) | (refine wpList_store_arrT rfl (.tmp 2) (.tmp 53) rfl w.heap.size D (by rw [HOL.out]; exact arr16) (List.replicate 16 0) rfl rfl (Z3.out.up b4).1 (by rw [HOL.out]; rfl) ?_))
            exact bodyPost_ret (results_arrT2 Tryd.results45 _ _ w.heap.size D (by rw [HOL.out]; exact arr16) rfl (arrT_setRow (Z3.out.up b4).1 _)) rfl ⟨by rw [HYES.out.1, HYES.out.2]; rfl, below_setRow (Z3.out.up b4).2.2 (Nat.le_refl _) _⟩
          · have e := colW_few hc hr h8
            have HNO : Hid (colV l = none ∧ colA l = List.replicate 16 0) := ⟨e, colA_no e⟩
            have h8' : ¬ (g.length : Int) = 8 := by omega
            have h8n : ((g.length : Int) != 8) = true := by simp [h8']
            clear e hc hr
            go_wp2_with (first | (go_at_call 60; refine (HR.out _).mono ?_; rintro e w2 ⟨⟨a', c', rfl, o'⟩, b2⟩; refine Hid.out ?_))
            refine Lib.hid ?_
            have Z2 := Lib.hid (Z.out.up b2)
            have hgd8 : ¬ (((some g).getD []).length : Int) = 8 := h8'
            clear b2 Z o'
            go_wp2_with (refine wpList_store_arrT rfl (.tmp 2) (.tmp 47) rfl w.heap.size (List.replicate 16 0) arr16 (List.replicate 16 0) rfl rfl Z2.out.1 rfl ?_)
            exact bodyPost_ret (results_arrT2 Tryd.results45 _ _ w.heap.size (List.replicate 16 0) arr16 rfl (arrT_setRow Z2.out.1 _)) rfl ⟨by rw [HNO.out.1, HNO.out.2]; rfl, below_setRow Z2.out.2.2 (Nat.le_refl _) _⟩
      | some j =>
        have hj := cc_lt hc
        simp only [atI]
        have hj2 : j + 2 ≤ s.size := by rw [← HLL.out]; omega
        have hR1 := fun W => rrow_any (s.extract 0 j) (l.take j) (by rw [part_extract, HL.out]; simp) false W (by rw [ByteArray.size_extract]; omega)
        have hR2 := fun W => rrow_any (s.extract (j + 2) s.size) (l.drop (j + 2)) (by rw [part_extract, HL.out]; exact List.take_of_length_le (by rw [List.length_drop, HLL.out]; exact Nat.le_refl _)) true W (by rw [ByteArray.size_extract]; omega)
        have m1 := rowV_small (l.take j) false
        have m2 := rowV_small (l.drop (j + 2)) true
        rw [List.length_take] at m1
        rw [List.length_drop, HLL.out] at m2
        obtain ⟨A, hA⟩ : ∃ A, (rowV (l.take j) false).getD [] = A := ⟨_, rfl⟩
        obtain ⟨b1, hb1⟩ : ∃ b, (rowV (l.take j) false).isSome = b := ⟨_, rfl⟩
        obtain ⟨C, hC⟩ : ∃ C, (rowV (l.drop (j + 2)) true).getD [] = C := ⟨_, rfl⟩
        obtain ⟨b2, hb2⟩ : ∃ b, (rowV (l.drop (j + 2)) true).isSome = b := ⟨_, rfl⟩
        have F1 : Hid (b1 = false → colV l = none) := fun e => colW_cut1 hc (by cases h : rowV (l.take j) false with | none => rfl | some g => rw [h] at hb1; rw [← hb1] at e; cases e)
        have F2 : Hid (b2 = false → colV l = none) := fun e => colW_cut2 hc (by cases h : rowV (l.drop (j + 2)) true with | none => rfl | some g => rw [h] at hb2; rw [← hb2] at e; cases e)
        have F3 : Hid (b1 = true → rowV (l.take j) false = some A) := fun e => by
          cases h : rowV (l.take j) false with
          | none => rw [h] at hb1; rw [← hb1] at e; cases e
          | some g => rw [h] at hA; rw [← hA]; rfl
        have F4 : Hid (b2 = true → rowV (l.drop (j + 2)) true = some C) := fun e => by
          cases h : rowV (l.drop (j + 2)) true with
          | none => rw [h] at hb2; rw [← hb2] at e; cases e
          | some g => rw [h] at hC; rw [← hC]; rfl
        rw [hA, hb1] at hR1
        rw [hC, hb2] at hR2
        rw [hA] at m1
        rw [hC] at m2
        have mA : A.length ≤ 1000000 := by omega
        have mC : C.length ≤ 1000000 := by omega
        have HR1 := Lib.hid hR1
        have HR2 := Lib.hid hR2
        have HC := Lib.hid hc
        have hjn : ¬ (j : Int) < 0 := by omega
        clear hR1 hR2 hA hb1 hC hb2 m1 m2 hc hj
        go_wp2_with (first | (go_at_call 60; refine (HR1.out _).mono ?_; rintro e w2 ⟨⟨a1, c1, rfl, o1⟩, bb2⟩; refine Hid.out ?_))
        refine Lib.hid ?_
        have Z2 := Lib.hid (Z.out.up bb2)
        have hB1 := Z.out.lt
        have O1 := Lib.hid o1
        clear bb2 o1 Z HR1
        generalize ((w.alloc (.cells #[.int .u8 0, .int .u8 0, .int .u8 0, .int .u8 0, .int .u8 0, .int .u8 0, .int .u8 0, .int .u8 0, .int .u8 0, .int .u8 0, .int .u8 0, .int .u8 0, .int .u8 0, .int .u8 0, .int .u8 0, .int .u8 0] 22)).alloc (.cells #[.int .i64 0, .int .i64 0, .int .i64 0, .int .i64 0, .int .i64 0, .int .i64 0, .int .i64 0, .int .i64 0] 60)).heap.size = B1 at O1 hB1
        go_wp2_with (first | (go_at_call 60; refine (HR2.out _).mono ?_; rintro e w3 ⟨⟨a2, c2, rfl, o2⟩, bb3⟩; refine Hid.out ?_))
        refine Lib.hid ?_
        have Z3 := Lib.hid (Z2.out.up bb3)
        have O1' := Lib.hid (ownI_below O1.out bb3)
        have hB2 := Z2.out.lt
        have O2 := Lib.hid o2
        clear bb3 o2 Z2 HR2 O1
        generalize w2.heap.size = B2 at O2 hB2
        cases b1 with
        | false =>
          have hn := F1.out rfl
          have HNO : Hid (colV l = none ∧ colA l = List.replicate 16 0) := ⟨hn, colA_no hn⟩
          clear hn F1 F2 F3 F4
          go_wp2_with (refine wpList_store_arrT rfl (.tmp 2) (.tmp 84) rfl w.heap.size (List.replicate 16 0) arr16 (List.replicate 16 0) rfl rfl Z3.out.1 rfl ?_)
          exact bodyPost_ret (results_arrT2 Tryd.results45 _ _ w.heap.size (List.replicate 16 0) arr16 rfl (arrT_setRow Z3.out.1 _)) rfl ⟨by rw [HNO.out.1, HNO.out.2]; rfl, below_setRow Z3.out.2.2 (Nat.le_refl _) _⟩
        | true =>
          cases b2 with
          | false =>
            have hn := F2.out rfl
            have HNO : Hid (colV l = none ∧ colA l = List.replicate 16 0) := ⟨hn, colA_no hn⟩
            clear hn F1 F2 F3 F4
            go_wp2_with (refine wpList_store_arrT rfl (.tmp 2) (.tmp 84) rfl w.heap.size (List.replicate 16 0) arr16 (List.replicate 16 0) rfl rfl Z3.out.1 rfl ?_)
            exact bodyPost_ret (results_arrT2 Tryd.results45 _ _ w.heap.size (List.replicate 16 0) arr16 rfl (arrT_setRow Z3.out.1 _)) rfl ⟨by rw [HNO.out.1, HNO.out.2]; rfl, below_setRow Z3.out.2.2 (Nat.le_refl _) _⟩
          | true =>
            have ha := F3.out rfl
            have hb := F4.out rfl
            clear F1 F2 F3 F4
            by_cases hsum : A.length + C.length ≤ 7
            · obtain ⟨e, hle⟩ := colW_cut HC.out ha hb hsum
              have hBL := bothG_length A C hsum
              have hOF := fun W => rof_any (natsI (bothG A C)) W (by rw [natsI_length]; exact hBL) (natsI_range _ hle hBL)
              rw [okI_nats _ hle, ofL_nats _ hle] at hOF
              have HOF := Lib.hid hOF
              have HOL : Hid ((ofB (natsI (bothG A C))).length = 16) := by show _ = _; rw [ofB_length, natsI_length, hBL]
              have HYES : Hid (colA l = ofB (natsI (bothG A C)) ∧ colV l = some (bothG A C)) := ⟨colA_yes e, e⟩
              have HNL : Hid ((natsI (bothG A C)).length = 8) := by show _ = _; rw [natsI_length]; exact hBL
              have HSP := Lib.hid (both_spliceI A C hsum)
              have HF8 := Lib.hid (fill8_length A (by omega))
              have hgt : ¬ (7 : Int) < (A.length : Int) + (C.length : Int) := by omega
              clear hOF e hle ha hb
              generalize ofB (natsI (bothG A C)) = D at *
              generalize natsI (bothG A C) = GG at *
              have Z4 : Hid (ParS w (gfill A 0) w3) := Z3.out
              clear Z3
              go_wp2
              go_loopw [13] (fun i wr => ∃ k : Nat, k ≤ A.length ∧ i = .int .i64 (k : Int) ∧ ParS w (gfill A k) wr ∧ wr.ownsRow B1 3 1 (.slice a1 A.length c1) A.length (intVals (natsI A)) ∧ wr.ownsRow B2 3 1 (.slice a2 C.length c2) C.length (intVals (natsI C))) (fun i _ => A.length - (intOf i).toNat)
              case atStart => exact ⟨0, by omega, rfl, Z4.out, O1'.out, O2.out⟩
              case round =>
                obtain ⟨k1, hk1, rfl, hP, hO1, hO2⟩ := hrel
                clear Z4 O1' O2
                by_cases hk1l : k1 < A.length
                · obtain ⟨bb, off, rfl, hbl, hcell⟩ := (ownI_isI hO1).cells.2.2.2 k1 (by rw [natsI_length]; exact hk1l)
                  rw [natsI_at] at hcell
                  have hc2 := hP.2.1.cell k1 (by rw [gfill_length2 A k1 hk1 (by omega)]; omega)
                  have hf2 := hP.2.1.frozen k1
                  have hset := hP.set k1 ((A.getD k1 0 : Nat) : Int)
                  rw [gfill_set2 A k1 hk1l (by omega)] at hset
                  have HS := Lib.hid hset
                  have HO : Hid (∀ x, (wr.setCell ⟨w.heap.size + 1, k1, none⟩ x).ownsRow B1 3 1 (.slice (some ⟨bb, off, none⟩) A.length c1) A.length (intVals (natsI A)) ∧ (wr.setCell ⟨w.heap.size + 1, k1, none⟩ x).ownsRow B2 3 1 (.slice a2 C.length c2) C.length (intVals (natsI C))) := fun x => ⟨ownI_set hO1 hB1 _ _, ownI_set hO2 hB2 _ _⟩
                  have hk18 : (k1 : Int) < 8 := by omega
                  clear hset hP hO1 hO2
                  generalize A.getD k1 0 = N at *
                  go_wp2
                  go_roundw
                  case rel => exact ⟨k1 + 1, by omega, by go_num, HS.out, (HO.out _).1, (HO.out _).2⟩
                  case measure => simp [intOf]; omega
                · have hk1e : k1 = A.length := by omega
                  subst hk1e
                  rw [gfill_fill8] at hP
                  obtain ⟨M, hM⟩ : ∃ M, 8 - C.length = M := ⟨_, rfl⟩
                  rw [hM] at HSP
                  have hsub : (8 : Int) - (C.length : Int) = (M : Int) := by omega
                  have Z5 : Hid (ParS w (splice (fill8 A) M (natsI (C.take 0))) wr) := by
                    show ParS w (splice (fill8 A) M (natsI (C.take 0))) wr
                    rw [List.take_zero, show natsI [] = [] from rfl, splice_none]
                    exact hP
                  have O2 := Lib.hid hO2
                  clear hP hO1 hO2
                  go_wp2
                  go_loopw [14] (fun i wr => ∃ k : Nat, k ≤ C.length ∧ i = .int .i64 (k : Int) ∧ ParS w (splice (fill8 A) M (natsI (C.take k))) wr ∧ wr.ownsRow B2 3 1 (.slice a2 C.length c2) C.length (intVals (natsI C))) (fun i _ => C.length - (intOf i).toNat)
                  case atStart => exact ⟨0, by omega, rfl, Z5.out, O2.out⟩
                  case round =>
                    obtain ⟨k2, hk2, rfl, hP, hO2⟩ := hrel
                    clear Z5 O2
                    have htl : (natsI (C.take k2)).length = k2 := by rw [natsI_length, List.length_take]; omega
                    have hspl : (splice (fill8 A) M (natsI (C.take k2))).length = 8 := by rw [length_splice _ _ _ (by rw [htl, HF8.out]; omega), HF8.out]
                    by_cases hk2l : k2 < C.length
                    · obtain ⟨bb, off, rfl, hbl, hcell⟩ := (ownI_isI hO2).cells.2.2.2 k2 (by rw [natsI_length]; exact hk2l)
                      rw [natsI_at] at hcell
                      have hc2 := hP.2.1.cell (M + k2) (by rw [hspl]; omega)
                      have hf2 := hP.2.1.frozen (M + k2)
                      have hset := hP.set (M + k2) ((C.getD k2 0 : Nat) : Int)
                      have hss := splice_set (fill8 A) M (natsI (C.take k2)) ((C.getD k2 0 : Nat) : Int) (by rw [htl, HF8.out]; omega)
                      rw [htl] at hss
                      have htk : natsI (C.take (k2 + 1)) = natsI (C.take k2) ++ [((C.getD k2 0 : Nat) : Int)] := by
                        rw [List.take_add_one, natsI_append]
                        simp [natsI, List.getD, hk2l]
                      rw [hss, ← htk] at hset
                      have HS := Lib.hid hset
                      have HO : Hid (∀ x, (wr.setCell ⟨w.heap.size + 1, M + k2, none⟩ x).ownsRow B2 3 1 (.slice (some ⟨bb, off, none⟩) C.length c2) C.length (intVals (natsI C))) := fun x => ownI_set hO2 hB2 _ _
                      have q1 : ((M : Int) + (k2 : Int)).toNat = M + k2 := by omega
                      have q2 : (M : Int) + (k2 : Int) < 8 := by omega
                      have q3 : (0 : Int) ≤ (M : Int) + (k2 : Int) := by omega
                      clear hset hP hO2 hss htk htl hspl
                      generalize C.getD k2 0 = N at *
                      go_wp2
                      go_roundw
                      case rel => exact ⟨k2 + 1, by omega, by go_num, HS.out, HO.out _⟩
                      case measure => simp [intOf]; omega
                    · have hk2e : k2 = C.length := by omega
                      subst hk2e
                      rw [List.take_of_length_le (Nat.le_refl _), HSP.out] at hP
                      have HP := Lib.hid hP
                      clear hP hO2 htl hspl
                      go_wp2_with (first | (refine wpList_load_intT rfl (.tmp 6) rfl (w.heap.size + 1) GG (by rw [HNL.out]; exact ints8.isRow) rfl HP.out.2.1 ?_) | (go_at_call 61; refine (HOF.out _).mono ?_; rintro e w4 ⟨rfl, b4⟩) | (refine wpList_store_arrT rfl (.tmp 2) (.tmp 115) rfl w.heap.size D (by rw [HOL.out]; exact arr16) (List.replicate 16 0) rfl rfl (HP.out.up b4).1 (by rw [HOL.out]; rfl) ?_))
                      exact bodyPost_ret (results_arrT2 Tryd.results45 _ _ w.heap.size D (by rw [HOL.out]; exact arr16) rfl (arrT_setRow (HP.out.up b4).1 _)) rfl ⟨by rw [HYES.out.1, HYES.out.2]; rfl, below_setRow (HP.out.up b4).2.2 (Nat.le_refl _) _⟩
            · have hn := colW_cutM HC.out ha hb hsum
              have HNO : Hid (colV l = none ∧ colA l = List.replicate 16 0) := ⟨hn, colA_no hn⟩
              have hgt : (7 : Int) < (A.length : Int) + (C.length : Int) := by omega
              clear hn ha hb
              go_wp2_with (refine wpList_store_arrT rfl (.tmp 2) (.tmp 84) rfl w.heap.size (List.replicate 16 0) arr16 (List.replicate 16 0) rfl rfl Z3.out.1 rfl ?_)
              exact bodyPost_ret (results_arrT2 Tryd.results45 _ _ w.heap.size (List.replicate 16 0) arr16 rfl (arrT_setRow Z3.out.1 _)) rfl ⟨by rw [HNO.out.1, HNO.out.2]; rfl, below_setRow Z3.out.2.2 (Nat.le_refl _) _⟩
end Go.Proofs.YtlbgmpjeckigjaaDoor

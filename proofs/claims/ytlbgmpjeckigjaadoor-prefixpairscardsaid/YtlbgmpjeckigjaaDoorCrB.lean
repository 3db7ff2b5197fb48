/- The document's group and row of layer 7. Proved: what each returns. The document's row of layer 7. Proved: what it returns. -/
import Derived.Test.YtlbgmpjeckigjaaDoorCrA
import Derived.Test.YtlbgmpjeckigjaaDoorDot4
namespace Go.Proofs.YtlbgmpjeckigjaaDoor
open Go Go.RowKit

def grpI (p : List UInt8) : Int := match grpOf p with | some n => (n : Int) | none => -1
theorem grpI_some {p : List UInt8} {n : Nat} (h : grpOf p = some n) : grpI p = n := by unfold grpI; rw [h]
theorem grpI_none {p : List UInt8} (h : grpOf p = none) : grpI p = -1 := by unfold grpI; rw [h]
theorem hexN_snoc (l : List UInt8) (k : Nat) (hk : k < l.length) : hexN (l.take (k + 1)) = 16 * hexN (l.take k) + hexV (l.getD k 0) := by
  have e : l.take (k + 1) = l.take k ++ [l.getD k 0] := by
    rw [List.take_add_one]
    simp [List.getD, hk]
  rw [e]
  simp [hexN, List.foldl_append]
theorem all_snoc (l : List UInt8) (k : Nat) (hk : k < l.length) : (l.take (k + 1)).all isHex = ((l.take k).all isHex && isHex (l.getD k 0)) := by
  have e : l.take (k + 1) = l.take k ++ [l.getD k 0] := by
    rw [List.take_add_one]
    simp [List.getD, hk]
  rw [e]
  simp
set_option maxRecDepth 100000 in
set_option maxHeartbeats 2000000 in
theorem rgroup_any (p : List UInt8) (w : World) (hp : p.length ≤ 1000000) :
    Calls Tryd.prog 69 #[.string ⟨p.toArray⟩] w fun e w' => e = .returned (.int .i64 (grpI p)) ∧ w = w' := by
  have hsz := str_len p
  by_cases h0 : p.length = 0
  · have hg := grpI_none (grp_none (l := p) (.inl h0))
    have he : p = [] := List.eq_nil_of_length_eq_zero h0
    rw [hg]
    subst he
    go_enter Tryd.func69, Tryd.ntmps69
    go_wp2
    go_ret
    exact ⟨rfl, rfl⟩
  · have e1 : ¬ (⟨p.toArray⟩ : ByteArray).toList = [] := by
      rw [ByteArray.toList_eq]
      intro e
      exact h0 (by rw [show p = [] from e]; rfl)
    have e2 : (⟨p.toArray⟩ : ByteArray).toList.isEmpty = false := by rw [List.isEmpty_eq_false_iff]; exact e1
    have e3 : ¬ p = [] := fun e => h0 (by rw [e]; rfl)
    have e4 : p.isEmpty = false := by rw [List.isEmpty_eq_false_iff]; exact e3
    by_cases h4 : 4 < p.length
    · have hg := grpI_none (grp_none (l := p) (.inr h4))
      have h4' : (4 : Int) < (p.length : Int) := by omega
      rw [hg]
      go_enter Tryd.func69, Tryd.ntmps69
      go_wp2
      go_ret
      exact ⟨rfl, rfl⟩
    · have h4' : ¬ (4 : Int) < (p.length : Int) := by omega
      have h5 : p.length ≤ 4 := by omega
      have HG : Hid (grpI p = if p.all isHex = false then -1 else (hexN p : Int)) := by
        show _ = _
        cases ha : p.all isHex with
        | false => rw [grpI_none (by unfold grpOf; rw [if_pos (.inr (.inr ha))])]; rfl
        | true =>
          rw [grpI_some (n := hexN p) (by unfold grpOf; rw [if_neg (fun hc => by rcases hc with h | h | h; exact h0 h; omega; rw [ha] at h; cases h)])]
          rfl
      have HSN := Lib.hid (hexN_snoc p)
      have HAS := Lib.hid (all_snoc p)
      have HLT : Hid (∀ k, hexN (p.take k) < 16 ^ 4) := fun k => by
        have h1 := hexN_lt (p.take k) 0
        have h2 : 16 ^ (p.take k).length ≤ 16 ^ 4 := Nat.pow_le_pow_right (by omega) (by rw [List.length_take]; omega)
        unfold hexN
        omega
      clear hp h0 h4
      go_enter Tryd.func69, Tryd.ntmps69
      go_wp2
      go_loop [3, 4] (fun n i => ∃ k : Nat, k ≤ p.length ∧ i = .int .i64 (k : Int) ∧ n = .int .i64 (hexN (p.take k) : Int) ∧ (p.take k).all isHex = true) (fun _ i => p.length - (intOf i).toNat)
      case atStart => exact ⟨0, by omega, rfl, rfl, rfl⟩
      case round =>
        obtain ⟨k, hk, rfl, rfl, hall⟩ := hrel
        by_cases hlt : k < p.length
        · have hix := fun W => index_str W p k hlt
          have hsn := HSN.out k hlt
          have hast := HAS.out k hlt
          have hlk := HLT.out k
          have hb0 := byteAt_nonneg p k
          have hb1 := byteAt_le p k
          have HD := Lib.hid (fun W => rdigit_any (byteAt p k) W hb0 hb1)
          rw [hall, Bool.true_and] at hast
          have hbd := digV16_bd (byteAt p k)
          cases hd : digB (byteAt p k) 16 with
          | true =>
            rw [rdig_ok hd] at HD
            have hh : isHex (p.getD k 0) = true := hd
            have hv : (hexV (p.getD k 0) : Int) = digV (byteAt p k) 16 := by
              unfold hexV
              exact Int.toNat_of_nonneg hbd.1
            rw [hh] at hast
            have HAST := Lib.hid hast
            have HV : Hid ((hexN (p.take (k + 1)) : Int) = 16 * (hexN (p.take k) : Int) + digV (byteAt p k) 16) := by
              show _ = _
              rw [← hv, hsn]
              omega
            clear hd hh hv hast hsn hall
            generalize digV (byteAt p k) 16 = d at *
            generalize byteAt p k = c at *
            generalize hexN (p.take k) = N at *
            have hd0 : ¬ d < 0 := by omega
            go_wp2_with (go_at_call 80; refine (HD.out _).mono ?_; rintro e w' ⟨rfl, rfl⟩)
            go_round
            case rel => exact ⟨k + 1, by omega, by go_num, by rw [HV.out], HAST.out⟩
            case measure => simp [intOf]; omega
          | false =>
            rw [rdig_no hd] at HD
            have hno : p.all isHex = false := by
              rw [Bool.eq_false_iff]
              intro ha
              have := List.all_eq_true.1 ha (p.getD k 0) (by simp [List.getD, hlt])
              have h2 : isHex (p.getD k 0) = false := hd
              rw [h2] at this
              cases this
            have hgo := HG.out
            rw [if_pos hno] at hgo
            have HGO := Lib.hid hgo
            clear hd hast hsn hall hno hgo
            generalize byteAt p k = c at *
            generalize hexN (p.take k) = N at *
            go_wp2_with (go_at_call 80; refine (HD.out _).mono ?_; rintro e w' ⟨rfl, rfl⟩)
            go_ret
            exact ⟨by rw [HGO.out]; rfl, rfl⟩
        · have hkn : k = p.length := by omega
          subst hkn
          rw [List.take_of_length_le (Nat.le_refl _)] at hall ⊢
          have hgo := HG.out
          rw [if_neg (by rw [hall]; simp)] at hgo
          have HGO := Lib.hid hgo
          clear hgo
          go_wp2
          go_ret
          exact ⟨by rw [HGO.out]; rfl, rfl⟩
/-- How far the document's row is read. -/
structure ColR (l : List UInt8) (last : Bool) (G : List Nat) (cur : List UInt8) (i : Nat) : Prop where
  le : i ≤ l.length + 1
  short : cur.length ≤ i
  small : G.length ≤ 2 * i
  parts : i ≤ l.length → ∃ ps, (∀ p ∈ ps, (grpOf p).isSome = true) ∧ G = grpsV ps ∧ splitF 58 [] l = ps ++ splitF 58 cur (l.drop i)
  done : i = l.length + 1 → rowP last (splitF 58 [] l) = some G
theorem colR_zero (l : List UInt8) (last : Bool) : ColR l last [] [] 0 := ⟨by omega, by simp, by simp, fun _ => ⟨[], fun p hp => by simp at hp, rfl, by simp⟩, fun h => by omega⟩
theorem ColR.byte {l : List UInt8} {last : Bool} {G : List Nat} {cur : List UInt8} {i : Nat} (h : ColR l last G cur i) (hi : i < l.length) (hb : byteAt l i ≠ 58) : ColR l last G (cur ++ [l.getD i 0]) (i + 1) := by
  refine ⟨by omega, by have := h.short; simp; omega, by have := h.small; omega, fun _ => ?_, fun e => by omega⟩
  obtain ⟨ps, h1, h2, h3⟩ := h.parts (by omega)
  refine ⟨ps, h1, h2, ?_⟩
  rw [h3, List.drop_eq_getElem_cons hi]
  have e : l[i] = l.getD i 0 := by simp [List.getD, hi]
  rw [e, splitF_byte]
  intro e2
  refine hb ?_
  unfold byteAt
  rw [e2]
  rfl
theorem ColR.sign {l : List UInt8} {last : Bool} {G : List Nat} {cur : List UInt8} {i : Nat} (h : ColR l last G cur i) (hi : i < l.length) (hb : byteAt l i = 58) {n : Nat} (hg : grpOf cur = some n) : ColR l last (G ++ [n]) [] (i + 1) := by
  refine ⟨by omega, by simp, by have := h.small; simp; omega, fun _ => ?_, fun e => by omega⟩
  obtain ⟨ps, h1, h2, h3⟩ := h.parts (by omega)
  refine ⟨ps ++ [cur], fun p hp => ?_, ?_, ?_⟩
  · rcases List.mem_append.1 hp with hp | hp
    · exact h1 p hp
    · simp at hp; subst hp; rw [hg]; rfl
  · rw [h2]
    have : grpV cur = n := by unfold grpV; rw [hg]; rfl
    simp [grpsV, this]
  · rw [h3, drop_sign58 hi hb, splitF_sign]
    simp
theorem ColR.signNo {l : List UInt8} {last : Bool} {G : List Nat} {cur : List UInt8} {i : Nat} (h : ColR l last G cur i) (hi : i < l.length) (hb : byteAt l i = 58) (hg : grpOf cur = none) : rowP last (splitF 58 [] l) = none := by
  obtain ⟨ps, h1, h2, h3⟩ := h.parts (by omega)
  rw [h3, drop_sign58 hi hb, splitF_sign, rowP_front last _ _ _ h1]
  cases hs : splitF 58 [] (l.drop (i + 1)) with
  | nil => exact absurd hs (splitF_ne 58 _ [])
  | cons x xs => rw [rowP, hg]; rfl
theorem ColR.last {l : List UInt8} {last : Bool} {G : List Nat} {cur : List UInt8} (h : ColR l last G cur l.length) : rowP last (splitF 58 [] l) = (rowP last [cur]).map (G ++ ·) := by
  obtain ⟨ps, h1, h2, h3⟩ := h.parts (Nat.le_refl _)
  rw [h3, List.drop_length, splitF, rowP_front last _ _ _ h1, h2]
theorem ColR.endG {l : List UInt8} {last : Bool} {G : List Nat} {cur : List UInt8} (h : ColR l last G cur l.length) {n : Nat} (hg : grpOf cur = some n) : ColR l last (G ++ [n]) [] (l.length + 1) := by
  refine ⟨by omega, by simp, by have := h.small; simp; omega, fun e => by omega, fun _ => ?_⟩
  rw [h.last, rowP, hg]
  rfl
theorem ColR.endD {l : List UInt8} {last : Bool} {G : List Nat} {cur : List UInt8} (h : ColR l last G cur l.length) (hl : last = true) (hd : dotB cur = true) (x0 x1 x2 x3 : UInt8) (hx : dotL cur = [x0, x1, x2, x3]) : ColR l last (G ++ [x0.toNat * 256 + x1.toNat, x2.toNat * 256 + x3.toNat]) [] (l.length + 1) := by
  refine ⟨by omega, by simp, by have := h.small; simp; omega, fun e => by omega, fun _ => ?_⟩
  rw [h.last, rowP, dotB_grp hd]
  simp only [hl, hd, Bool.and_self, if_true, Option.map_some]
  rw [dotV_L hd 0 (by omega), dotV_L hd 1 (by omega), dotV_L hd 2 (by omega), dotV_L hd 3 (by omega), hx, Nat.mul_comm 256, Nat.mul_comm 256]
  rfl
theorem ColR.endNo {l : List UInt8} {last : Bool} {G : List Nat} {cur : List UInt8} (h : ColR l last G cur l.length) (hg : grpOf cur = none) (hd : (last && dotB cur) = false) : rowP last (splitF 58 [] l) = none := by
  rw [h.last, rowP, hg]
  simp only [hd]
  rfl
theorem ownI_below {w w' : World} {base : Nat} {e : TypeId} {size : Nat} {v : Value} {n : Nat} {xs : List Value} (h : w.ownsRow base e size v n xs) (hb : Below w.heap.size w w') : w'.ownsRow base e size v n xs := by
  refine ⟨h.1, ?_⟩
  rcases h.2 with h0 | ⟨g, cap, cur, h1, h2, hg, h3⟩
  · exact .inl h0
  · exact .inr ⟨g, cap, cur, h1, h2, (hb.block g (Array.getElem?_eq_some_iff.1 hg).1).trans hg, h3⟩
theorem ownI_low {w : World} {base : Nat} {e : TypeId} {size : Nat} {v : Value} {n : Nat} {xs : List Value} (h : w.ownsRow base e size v n xs) : ∀ k, v.ownBlock = some k → base ≤ k := by
  rcases h.2 with ⟨rfl, rfl⟩ | ⟨g, cap, cur, rfl, hg, _⟩
  · intro k hk; cases hk
  · intro k hk; cases hk; exact hg
theorem IsI.nil (w : World) : IsI w (.slice none 0 0) [] := ⟨none, 0, rfl, by simp, by simp [maxLen], fun h => by simp at h⟩
theorem ownI_shape {w : World} {base : Nat} {v : Value} {n : Nat} {l : List Int} (h : w.ownsRow base 3 1 v n (intVals l)) : ∃ a n cap, v = .slice a n cap ∧ IsI w (.slice a n cap) l := by
  have h1 := h.1
  rw [intVals_length] at h1
  rcases h.2 with ⟨rfl, rfl⟩ | ⟨g, cap, cur, rfl, _, hg, h3, h4, hc, hx⟩
  · have : l = [] := List.eq_nil_of_length_eq_zero (by omega)
    subst this
    exact ⟨_, _, _, rfl, IsI.nil _⟩
  · have hn : n = l.length := by omega
    subst hn
    refine ⟨_, _, _, rfl, some ⟨g, 0, none⟩, cap, rfl, h3, h4, fun _ => ⟨g, 0, rfl, (Array.getElem?_eq_some_iff.1 hg).1, fun i hi => ?_⟩⟩
    have := h.cellAt i (by omega)
    rw [Nat.zero_add, this, intVals_getElem? l i hi]
end Go.Proofs.YtlbgmpjeckigjaaDoor
namespace Go.Proofs.YtlbgmpjeckigjaaDoor
open Go Go.RowKit

theorem natsI_append (a b : List Nat) : natsI (a ++ b) = natsI a ++ natsI b := by simp [natsI]
theorem append_ints {w : World} {ops : Array Oper} {rest : List Oper} {o : Oper} {a : Act} {Q : Exit → Act → World → Prop} (hgd : o.guard = none) (s x : Operand)
    (ho : o.op = .call { callee := .builtin .append, args := #[s, x], argTypes := #[65, 65] })
    (base : Nat) (v : Value) (G : List Nat) (hs : a.eval s = v) (hown : w.ownsRow base 3 1 v G.length (intVals (natsI G)))
    (g k : Nat) (ns : List Nat) (hk : ns.length = k) (hx : a.eval x = .slice (some ⟨g, 0, none⟩) k k) (hg : IntT 3 w g (natsI ns)) (hlen : G.length + ns.length ≤ 1000000) (hbase : base ≤ w.heap.size)
    (h : ∀ v' w', w'.ownsRow base 3 1 v' (G ++ ns).length (intVals (natsI (G ++ ns))) → w.grownBy w' v.ownBlock → wpList Tryd.prog ops Q rest (a.put o.dst v') w') : wpList Tryd.prog ops Q (o :: rest) a w := by
  obtain ⟨i0, hi, hz0, hz1, hz2⟩ := info_parts infoInt
  subst hk
  refine wpList_append_own _ hgd s x _ ho base _ i0 _ 1 8 Tryd.underlying65 hi hz0 hz1 hz2 rfl (by decide) v G.length _ hs hown ⟨g, 0, none⟩ ns.length ns.length (intVals (natsI ns)) hx (by rw [intVals_length, natsI_length, Nat.mul_one]) ?_ (intVals_oneCell _) (by unfold maxLen; omega) (by omega) hbase (fun v' w' h1 h2 _ => h v' w' (by rw [List.length_append, natsI_append, intVals_append]; exact h1) h2)
  intro j u hj
  have hjl : j < (natsI ns).length := by have := (List.getElem?_eq_some_iff.1 hj).1; rwa [intVals_length] at this
  rw [intVals_getElem? _ j hjl] at hj
  cases hj
  rw [plain_add, Nat.zero_add]
  exact hg.cell j hjl
theorem intT_new_at {t : TypeId} {W : World} {g : Nat} {c : List Int} {cs : Array Value} (hg : W.heap.size = g) (hcs : cs = (intVals c).toArray) : IntT t (W.alloc (.cells cs t)) g c := by
  subst hg hcs
  exact intT_new W c
theorem ownI_form {w : World} {base : Nat} {e : TypeId} {size : Nat} {v : Value} {n : Nat} {xs : List Value} (h : w.ownsRow base e size v n xs) : ∃ a cap, v = .slice a n cap := by
  rcases h.2 with ⟨rfl, rfl⟩ | ⟨g, cap, cur, rfl, _⟩
  · exact ⟨none, 0, rfl⟩
  · exact ⟨_, _, rfl⟩
theorem ownI_other {w w' : World} {base : Nat} {e : TypeId} {size : Nat} {v : Value} {n : Nat} {xs : List Value} (h : w.ownsRow base e size v n xs) (hb : ∀ k, k < w.heap.size → base ≤ k → w'.heap[k]? = w.heap[k]?) : w'.ownsRow base e size v n xs := by
  refine ⟨h.1, ?_⟩
  rcases h.2 with h0 | ⟨g, cap, cur, h1, h2, hg, h3⟩
  · exact .inl h0
  · exact .inr ⟨g, cap, cur, h1, h2, (hb g (Array.getElem?_eq_some_iff.1 hg).1 h2).trans hg, h3⟩
/-- What is held of the row that is being made. -/
def RowH (w : World) (v : Value) (G : List Nat) (W : World) : Prop := W.ownsRow w.heap.size 3 1 v G.length (intVals (natsI G)) ∧ Below w.heap.size w W
theorem RowH.up {w : World} {v : Value} {G : List Nat} {W W' : World} (h : RowH w v G W) (hb : Below W.heap.size W W') : RowH w v G W' := ⟨ownI_below h.1 hb, below_up h.2 hb h.2.size⟩
theorem RowH.al {w : World} {v : Value} {G : List Nat} {W : World} (h : RowH w v G W) (o : Obj) : RowH w v G (W.alloc o) := h.up ((Below.refl _ _).alloc (Nat.le_refl _) _)
theorem RowH.grown {w : World} {v v' : Value} {G G' : List Nat} {W W' : World} (h : RowH w v G W) (h1 : W'.ownsRow w.heap.size 3 1 v' G'.length (intVals (natsI G'))) (hg : W.grownBy W' v.ownBlock) : RowH w v' G' W' := ⟨h1, h.2.grown hg h.2.size (ownI_low h.1)⟩
set_option maxRecDepth 100000 in
set_option maxHeartbeats 8000000 in
theorem rrow_any (s : ByteArray) (l : List UInt8) (hl : s.data.toList = l) (last : Bool) (w : World) (hs : s.size ≤ 400000) :
    Calls Tryd.prog 60 #[.string s, .bool last] w fun e w' => (∃ a cap, e = .returned (.tuple #[.slice a ((rowV l last).getD []).length cap, .bool (rowV l last).isSome]) ∧ w'.ownsRow w.heap.size 3 1 (.slice a ((rowV l last).getD []).length cap) ((rowV l last).getD []).length (intVals (natsI ((rowV l last).getD [])))) ∧ Below w.heap.size w w' := by
  have hll : l.length = s.size := by rw [← hl]; rfl
  have hbs : ∀ k (h : k < s.size), (s[k].toNat : Int) = byteAt l k := fun k h => by rw [← hl]; exact str_at s k h
  by_cases h0 : s.size = 0
  · have he := empty_of h0
    have hnil : l = [] := List.eq_nil_of_length_eq_zero (by rw [hll]; exact h0)
    have hr : rowV l last = some [] := by rw [hnil]; rfl
    rw [hr]
    subst he
    clear hll hbs hnil hr hl
    go_enter Tryd.func60, Tryd.ntmps60
    go_wp2
    go_ret2
    exact ⟨⟨_, _, rfl, World.ownsRow_nil _ _ _ _⟩, Below.refl _ _⟩
  · have hne : l ≠ [] := fun e => h0 (by rw [← hll, e]; rfl)
    have e1 : ¬ s.toList = [] := by rw [ByteArray.toList_eq, hl]; exact hne
    have e2 : s.toList.isEmpty = false := by rw [List.isEmpty_eq_false_iff]; exact e1
    have HRV := Lib.hid (rowV_some l last hne)
    have HL := Lib.hid hl
    have HLL := Lib.hid hll
    have HBS := Lib.hid hbs
    clear hl hll hbs hne h0
    go_enter Tryd.func60, Tryd.ntmps60
    go_wp2
    go_loopw [6, 7, 8] (fun v p r wr => ∃ (G : List Nat) (cur : List UInt8) (i : Nat), p = .string ⟨cur.toArray⟩ ∧ r = .int .i64 (i : Int) ∧ ColR l last G cur i ∧ RowH w v G wr) (fun _ _ r _ => s.size + 1 - (intOf r).toNat)
    case atStart => exact ⟨[], [], 0, rfl, rfl, colR_zero l last, World.ownsRow_nil _ _ _ _, Below.refl _ _⟩
    case round =>
      obtain ⟨G, cur, i, rfl, rfl, hC, hR⟩ := hrel
      have hie := hC.le
      rw [HLL.out] at hie
      have hshort := hC.short
      have hsmall := hC.small
      have HC := Lib.hid hC
      have HR := Lib.hid hR
      clear hC hR
      have hcl : cur.length ≤ 500000 := by omega
      have hGL : G.length ≤ 900000 := by omega
      have HG := Lib.hid (fun W => rgroup_any cur W (by omega))
      have hDP := fun W => rdparse_any ⟨cur.toArray⟩ W (by rw [str_len]; omega)
      rw [str_list] at hDP
      have HD4 := Lib.hid (dotL_length cur)
      have HDP := Lib.hid hDP
      clear hDP
      by_cases hlt : i < s.size
      · have hkl : i < l.length := by rw [HLL.out]; exact hlt
        have hsk := HBS.out i hlt
        by_cases hp : byteAt l i = 58
        · have hp3 : (s[i].toNat : Int) = 58 := by rw [hsk, hp]
          clear hsk
          cases hg : grpOf cur with
          | some n =>
            have HNX := Lib.hid (HC.out.sign hkl hp hg)
            rw [grpI_some hg] at HG
            clear hg
            go_wp2_with (first | (go_at_call 69; refine (HG.out _).mono ?_; rintro e w' ⟨rfl, rfl⟩) | (go_at_call 44; refine (HDP.out _).mono ?_; rintro e w2 ⟨rfl, b2⟩; refine Hid.out ?_))
            refine Lib.hid ?_
            have V1 := Lib.hid ((HR.out.up b2).al (.cells (byteVals (dotL cur)).toArray 45))
            clear b2 HR HG HDP
            generalize dotL cur = D at *
            generalize dotB cur = db at *
            have hn0 : (0 : Int) ≤ (n : Int) := by omega
            go_wp2_with (first | (refine wpList_store_newT rfl (.tmp 10) (.tmp 42) rfl D (by rw [HD4.out]; exact arr4) _ rfl rfl (by rw [HD4.out]; rfl) ?_) | (at_builtin; refine append_ints rfl (.tmp 47) (.tmp 49) rfl w.heap.size _ G rfl (V1.out.al _).1 _ 1 [n] rfl rfl (intT_new_at (World.size_alloc _ _) rfl) (by simp; omega) (V1.out.al _).2.size ?_; intro v' w3 hown' hgrow; refine Hid.out ?_))
            refine Lib.hid ?_
            have V3 := Lib.hid ((V1.out.al (.cells (intVals (natsI [n])).toArray 3)).grown hown' hgrow)
            clear hown' hgrow V1
            go_wp2
            go_roundw
            case rel => exact ⟨_, [], _, rfl, by go_num, HNX.out, V3.out⟩
            case measure => first | (simp [intOf]; done) | (simp [intOf]; omega)
          | none =>
            have HNO := Lib.hid (HC.out.signNo hkl hp hg)
            rw [grpI_none hg] at HG
            have hil : ¬ (i : Int) = (s.size : Int) := by omega
            have hilb : ((i : Int) == (s.size : Int)) = false := beq_eq_false_iff_ne.2 hil
            clear hg
            go_wp2_with (first | (go_at_call 69; refine (HG.out _).mono ?_; rintro e w' ⟨rfl, rfl⟩) | (go_at_call 44; refine (HDP.out _).mono ?_; rintro e w2 ⟨rfl, b2⟩; refine Hid.out ?_))
            refine Lib.hid ?_
            have V1 := Lib.hid ((HR.out.up b2).al (.cells (byteVals (dotL cur)).toArray 45))
            have hrv : rowV l last = none := by rw [HRV.out]; exact HNO.out
            have HRW := Lib.hid hrv
            clear b2 HR HG HDP hrv
            generalize dotL cur = D at *
            generalize dotB cur = db at *
            go_wp2_with (refine wpList_store_newT rfl (.tmp 10) (.tmp 42) rfl D (by rw [HD4.out]; exact arr4) _ rfl rfl (by rw [HD4.out]; rfl) ?_)
            go_ret2
            exact ⟨⟨none, 0, by rw [HRW.out]; rfl, by rw [HRW.out]; exact World.ownsRow_nil _ _ _ _⟩, V1.out.2⟩
        · have hp3 : ¬ (s[i].toNat : Int) = 58 := by rw [hsk]; exact hp
          have hpb : ((s[i].toNat : Int) != 58) = true := by simp [hp3]
          have hnx := HC.out.byte hkl hp
          have HNX := Lib.hid hnx
          have hone : Hid ((⟨cur.toArray⟩ : ByteArray) ++ s.extract i (i + 1) = ⟨(cur ++ [l.getD i 0]).toArray⟩) := by
            show (⟨cur.toArray⟩ : ByteArray) ++ s.extract i (i + 1) = ⟨(cur ++ [l.getD i 0]).toArray⟩
            have e : s.extract i (i + 1) = ⟨[l.getD i 0].toArray⟩ := by
              apply ByteArray.ext
              apply Array.toList_inj.1
              rw [part_extract, HL.out, show i + 1 - i = 1 by omega, List.drop_eq_getElem_cons hkl]
              show List.take 1 (l[i] :: l.drop (i + 1)) = [l.getD i 0]
              rw [List.take_succ_cons, List.take_zero]
              simp [List.getD, hkl]
            rw [e, str_append]
          clear hsk hnx HG HDP
          go_wp2
          go_roundw
          case rel => exact ⟨G, _, i + 1, congrArg Value.string hone.out, by go_num, HNX.out, HR.out⟩
          case measure => simp [intOf]; omega
      · by_cases hie2 : i = s.size
        · have hil : i = l.length := by rw [HLL.out]; exact hie2
          have HC2 : Hid (ColR l last G cur l.length) := by rw [← hil]; exact HC.out
          have hlt2 : ¬ (i : Int) < (s.size : Int) := by omega
          have hle2 : (i : Int) ≤ (s.size : Int) := by omega
          have hieq : (i : Int) = (s.size : Int) := by omega
          have HIL := Lib.hid hil
          clear HC hil
          subst hie2
          cases hg : grpOf cur with
          | some n =>
            have HNX : Hid (ColR l last (G ++ [n]) [] (s.size + 1)) := by
              have := HC2.out.endG hg
              rw [HLL.out] at this
              exact this
            rw [grpI_some hg] at HG
            clear hg
            go_wp2_with (first | (go_at_call 69; refine (HG.out _).mono ?_; rintro e w' ⟨rfl, rfl⟩) | (go_at_call 44; refine (HDP.out _).mono ?_; rintro e w2 ⟨rfl, b2⟩; refine Hid.out ?_))
            refine Lib.hid ?_
            have V1 := Lib.hid ((HR.out.up b2).al (.cells (byteVals (dotL cur)).toArray 45))
            clear b2 HR HG HDP
            generalize dotL cur = D at *
            generalize dotB cur = db at *
            have hn0 : (0 : Int) ≤ (n : Int) := by omega
            go_wp2_with (first | (refine wpList_store_newT rfl (.tmp 10) (.tmp 42) rfl D (by rw [HD4.out]; exact arr4) _ rfl rfl (by rw [HD4.out]; rfl) ?_) | (at_builtin; refine append_ints rfl (.tmp 47) (.tmp 49) rfl w.heap.size _ G rfl (V1.out.al _).1 _ 1 [n] rfl rfl (intT_new_at (World.size_alloc _ _) rfl) (by simp; omega) (V1.out.al _).2.size ?_; intro v' w3 hown' hgrow; refine Hid.out ?_))
            refine Lib.hid ?_
            have V3 := Lib.hid ((V1.out.al (.cells (intVals (natsI [n])).toArray 3)).grown hown' hgrow)
            clear hown' hgrow V1
            go_wp2
            go_roundw
            case rel => exact ⟨_, [], _, rfl, by go_num, HNX.out, V3.out⟩
            case measure => first | (simp [intOf]; done) | (simp [intOf]; omega)
          | none =>
            rw [grpI_none hg] at HG
            cases hlast : last with
            | false =>
              subst hlast
              have HNO := Lib.hid (HC2.out.endNo hg rfl)
              clear hg
              go_wp2_with (first | (go_at_call 69; refine (HG.out _).mono ?_; rintro e w' ⟨rfl, rfl⟩) | (go_at_call 44; refine (HDP.out _).mono ?_; rintro e w2 ⟨rfl, b2⟩; refine Hid.out ?_))
              refine Lib.hid ?_
              have V1 := Lib.hid ((HR.out.up b2).al (.cells (byteVals (dotL cur)).toArray 45))
              have hrv : rowV l false = none := by rw [HRV.out]; exact HNO.out
              have HRW := Lib.hid hrv
              clear b2 HR HG HDP hrv
              generalize dotL cur = D at *
              generalize dotB cur = db at *
              go_wp2_with (refine wpList_store_newT rfl (.tmp 10) (.tmp 42) rfl D (by rw [HD4.out]; exact arr4) _ rfl rfl (by rw [HD4.out]; rfl) ?_)
              go_ret2
              exact ⟨⟨none, 0, by rw [HRW.out]; rfl, by rw [HRW.out]; exact World.ownsRow_nil _ _ _ _⟩, V1.out.2⟩
            | true =>
              subst hlast
              cases hd : dotB cur with
              | false =>
                have HNO := Lib.hid (HC2.out.endNo hg (by rw [hd]; rfl))
                rw [hd] at HDP
                clear hg hd
                go_wp2_with (first | (go_at_call 69; refine (HG.out _).mono ?_; rintro e w' ⟨rfl, rfl⟩) | (go_at_call 44; refine (HDP.out _).mono ?_; rintro e w2 ⟨rfl, b2⟩; refine Hid.out ?_))
                refine Lib.hid ?_
                have V1 := Lib.hid ((HR.out.up b2).al (.cells (byteVals (dotL cur)).toArray 45))
                have hrv : rowV l true = none := by rw [HRV.out]; exact HNO.out
                have HRW := Lib.hid hrv
                clear b2 HR HG HDP hrv
                generalize dotL cur = D at *
                go_wp2_with (refine wpList_store_newT rfl (.tmp 10) (.tmp 42) rfl D (by rw [HD4.out]; exact arr4) _ rfl rfl (by rw [HD4.out]; rfl) ?_)
                go_ret2
                exact ⟨⟨none, 0, by rw [HRW.out]; rfl, by rw [HRW.out]; exact World.ownsRow_nil _ _ _ _⟩, V1.out.2⟩
              | true =>
                obtain ⟨x0, x1, x2, x3, hx⟩ : ∃ x0 x1 x2 x3, dotL cur = [x0, x1, x2, x3] := by
                  have h4 := HD4.out
                  generalize dotL cur = D at h4
                  match D, h4 with
                  | [a, b, c, d], _ => exact ⟨a, b, c, d, rfl⟩
                have HNX : Hid (ColR l true (G ++ [x0.toNat * 256 + x1.toNat, x2.toNat * 256 + x3.toNat]) [] (s.size + 1)) := by
                  have := HC2.out.endD rfl hd x0 x1 x2 x3 hx
                  rw [HLL.out] at this
                  exact this
                rw [hd, hx] at HDP
                clear hg hd
                have HXL := Lib.hid hx
                clear hx
                go_wp2_with (first | (go_at_call 69; refine (HG.out _).mono ?_; rintro e w' ⟨rfl, rfl⟩) | (go_at_call 44; refine (HDP.out _).mono ?_; rintro e w2 ⟨rfl, b2⟩; refine Hid.out ?_))
                refine Lib.hid ?_
                have V1 := Lib.hid ((HR.out.up b2).al (.cells (byteVals [x0, x1, x2, x3]).toArray 45))
                have hA : ArrT 45 (w2.alloc (.cells (byteVals [x0, x1, x2, x3]).toArray 45)) w2.heap.size [x0, x1, x2, x3] := arrT_new w2 _
                have d0 := hA.cell 0 (by simp)
                have d1 := hA.cell 1 (by simp)
                have d2 := hA.cell 2 (by simp)
                have d3 := hA.cell 3 (by simp)
                rw [show byteAt [x0, x1, x2, x3] 0 = (x0.toNat : Int) from rfl] at d0
                rw [show byteAt [x0, x1, x2, x3] 1 = (x1.toNat : Int) from rfl] at d1
                rw [show byteAt [x0, x1, x2, x3] 2 = (x2.toNat : Int) from rfl] at d2
                rw [show byteAt [x0, x1, x2, x3] 3 = (x3.toNat : Int) from rfl] at d3
                have HA := Lib.hid hA
                clear b2 HR HG HDP hA
                have g0 := UInt8.toNat_lt x0
                have g1 := UInt8.toNat_lt x1
                have g2 := UInt8.toNat_lt x2
                have g3 := UInt8.toNat_lt x3
                have HE0 : Hid (256 * (x0.toNat : Int) + (x1.toNat : Int) = ((x0.toNat * 256 + x1.toNat : Nat) : Int) ∧ 256 * (x2.toNat : Int) + (x3.toNat : Int) = ((x2.toNat * 256 + x3.toNat : Nat) : Int)) := ⟨by omega, by omega⟩
                go_wp2_with (first | (refine wpList_store_newT rfl (.tmp 10) (.tmp 42) rfl [x0, x1, x2, x3] arr4 _ rfl rfl rfl ?_) | (at_builtin; refine append_ints rfl (.tmp 62) (.tmp 79) rfl w.heap.size _ G rfl (V1.out.al _).1 _ 2 [x0.toNat * 256 + x1.toNat, x2.toNat * 256 + x3.toNat] rfl rfl (intT_new_at (World.size_alloc _ _) (by rw [HE0.out.1, HE0.out.2]; rfl)) (by simp; omega) (V1.out.al _).2.size ?_; intro v' w3 hown' hgrow; refine Hid.out ?_))
                refine Lib.hid ?_
                have V3 := Lib.hid ((V1.out.al _).grown hown' hgrow)
                clear hown' hgrow V1
                go_wp2
                go_roundw
                case rel => exact ⟨_, [], _, rfl, by go_num, HNX.out, V3.out⟩
                case measure => first | (simp [intOf]; done) | (simp [intOf]; omega)
        · have hend : i = s.size + 1 := by omega
          have hrow := HC.out.done (by rw [HLL.out]; exact hend)
          have hrv : rowV l last = some G := by rw [HRV.out]; exact hrow
          have HRW := Lib.hid hrv
          have hle2 : ¬ (i : Int) ≤ (s.size : Int) := by omega
          obtain ⟨a', c', rfl⟩ := ownI_form HR.out.1
          clear hrv hrow HG HDP
          go_wp2
          go_ret2
          exact ⟨⟨a', c', by rw [HRW.out]; rfl, by rw [HRW.out]; exact HR.out.1⟩, HR.out.2⟩
end Go.Proofs.YtlbgmpjeckigjaaDoor

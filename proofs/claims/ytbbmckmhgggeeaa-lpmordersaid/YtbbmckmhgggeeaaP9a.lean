/- A tree of prefixes by its nodes' numbers: what it holds is a list in order; looking through it. Of no memory. -/
import Derived.Test.YtbbmckmhgggeeaaT9k
import Derived.Test.YtbbmckmhgggeeaaT9n
namespace Go.Proofs.Ytbbmckmhgggeeaa
open Go

def vO (d : Nd) : Option Int := if d.held then some d.v else none
theorem ownN_eq (d : Nd) : ownN d = ownL d.p (vO d) := by
  unfold ownN vO ownL
  cases d.held <;> rfl
/-- A kid is none, or its prefix lies below, on its side. -/
def KidP (nds : List Nd) (six : Bool) (p : Pfx) (b : Bool) (k : Nat) : Prop := k = 0 ∨ ∃ e, nds[k]? = some e ∧ SideP six p b e.p
def TreeF : Nat → List Nd → Bool → Nat → List Nat → List (Pfx × Int) → Prop
  | 0, _, _, n, S, L => n = 0 ∧ S = [] ∧ L = []
  | f + 1, nds, six, n, S, L => (n = 0 ∧ S = [] ∧ L = []) ∨ (n ≠ 0 ∧ ∃ d S0 S1 L0 L1, nds[n]? = some d ∧ TreeF f nds six d.k0 S0 L0 ∧ TreeF f nds six d.k1 S1 L1 ∧ Node9 six d.p L0 L1 ∧ KidP nds six d.p false d.k0 ∧ KidP nds six d.p true d.k1 ∧
      (n :: (S0 ++ S1)).Nodup ∧ S = n :: (S0 ++ S1) ∧ L = nodeL d.p (vO d) L0 L1)
section
variable {nds nds' : List Nd} {six : Bool}
theorem TreeF.zero (f : Nat) : TreeF f nds six 0 [] [] := by
  cases f
  · exact ⟨rfl, rfl, rfl⟩
  · exact .inl ⟨rfl, rfl, rfl⟩
theorem TreeF.of_zero : ∀ {f : Nat} {S : List Nat} {L : List (Pfx × Int)}, TreeF f nds six 0 S L → S = [] ∧ L = []
  | 0, _, _, h => ⟨h.2.1, h.2.2⟩
  | _ + 1, _, _, .inl h => ⟨h.2.1, h.2.2⟩
  | _ + 1, _, _, .inr h => absurd rfl h.1
theorem TreeF.mono : ∀ {f f' n : Nat} {S : List Nat} {L : List (Pfx × Int)}, TreeF f nds six n S L → f ≤ f' → TreeF f' nds six n S L
  | 0, f', _, _, _, h, _ => by obtain ⟨rfl, rfl, rfl⟩ := h; exact TreeF.zero f'
  | f + 1, 0, _, _, _, _, hf => by omega
  | f + 1, f' + 1, _, _, _, h, hf => by
    rcases h with h | ⟨h0, d, S0, S1, L0, L1, h1, h2, h3, h4⟩
    · exact .inl h
    · exact .inr ⟨h0, d, S0, S1, L0, L1, h1, h2.mono (by omega), h3.mono (by omega), h4⟩
theorem TreeF.root : ∀ {f n : Nat} {S : List Nat} {L : List (Pfx × Int)}, TreeF f nds six n S L → n ≠ 0 → n ∈ S
  | 0, _, _, _, h, hn => absurd h.1 hn
  | _ + 1, _, _, _, h, hn => by
    rcases h with h | ⟨_, d, S0, S1, L0, L1, _, _, _, _, _, _, _, rfl, _⟩
    · exact absurd h.1 hn
    · simp
theorem TreeF.mem : ∀ {f n : Nat} {S : List Nat} {L : List (Pfx × Int)}, TreeF f nds six n S L → S.Nodup ∧ ∀ k ∈ S, k ≠ 0 ∧ k < nds.length
  | 0, _, _, _, h => by obtain ⟨_, rfl, _⟩ := h; exact ⟨List.nodup_nil, fun _ h => by cases h⟩
  | f + 1, n, S, L, h => by
    rcases h with ⟨_, rfl, _⟩ | ⟨hn, d, S0, S1, L0, L1, hd, h0, h1, _, _, _, hnd, rfl, _⟩
    · exact ⟨List.nodup_nil, fun _ h => by cases h⟩
    · refine ⟨hnd, fun k hk => ?_⟩
      rcases List.mem_cons.1 hk with rfl | hk
      · exact ⟨hn, (List.getElem?_eq_some_iff.1 hd).1⟩
      · rcases List.mem_append.1 hk with hk | hk
        · exact h0.mem.2 k hk
        · exact h1.mem.2 k hk
/-- It is as it was where its nodes are. -/
theorem TreeF.frame : ∀ {f n : Nat} {S : List Nat} {L : List (Pfx × Int)}, TreeF f nds six n S L → (∀ k ∈ S, nds'[k]? = nds[k]?) → TreeF f nds' six n S L
  | 0, _, _, _, h, _ => h
  | f + 1, n, S, L, h, hk => by
    rcases h with h | ⟨hn, d, S0, S1, L0, L1, hd, h0, h1, h4, k0, k1, hnd, rfl, hL⟩
    · exact .inl h
    · refine .inr ⟨hn, d, S0, S1, L0, L1, (hk n (by simp)).trans hd, h0.frame (fun k h => hk k (by simp [h])), h1.frame (fun k h => hk k (by simp [h])), h4, ?_, ?_, hnd, rfl, hL⟩
      · rcases k0 with e | ⟨e, he, hs⟩
        · exact .inl e
        · by_cases hz : d.k0 = 0
          · exact .inl hz
          · exact .inr ⟨e, (hk _ (by simp [h0.root hz])).trans he, hs⟩
      · rcases k1 with e | ⟨e, he, hs⟩
        · exact .inl e
        · by_cases hz : d.k1 = 0
          · exact .inl hz
          · exact .inr ⟨e, (hk _ (by simp [h1.root hz])).trans he, hs⟩
theorem TreeF.order : ∀ {f n : Nat} {S : List Nat} {L : List (Pfx × Int)}, TreeF f nds six n S L → InOrder cmpP (okP six) L
  | 0, _, _, _, h => by obtain ⟨_, _, rfl⟩ := h; exact InOrder.nil
  | _ + 1, _, _, _, h => by
    rcases h with ⟨_, _, rfl⟩ | ⟨_, d, S0, S1, L0, L1, _, _, _, h4, _, _, _, _, rfl⟩
    · exact InOrder.nil
    · exact node_order h4
/-- A tree is no deeper than lengths allow. -/
theorem TreeF.cut : ∀ {f f' n : Nat} {S : List Nat} {L : List (Pfx × Int)}, TreeF f nds six n S L → (∀ e, nds[n]? = some e → n ≠ 0 → 129 ≤ e.p.len.toNat + f') → TreeF f' nds six n S L
  | 0, f', _, _, _, h, _ => by obtain ⟨rfl, rfl, rfl⟩ := h; exact TreeF.zero f'
  | f + 1, f', n, S, L, h, hf => by
    rcases h with ⟨rfl, rfl, rfl⟩ | ⟨hn, d, S0, S1, L0, L1, hd, h0, h1, h4, k0, k1, hnd, hS, hL⟩
    · exact TreeF.zero f'
    · have h5 := hf d hd hn
      have h6 := h4.ok.len0
      cases f' with
      | zero => omega
      | succ f' =>
        refine .inr ⟨hn, d, S0, S1, L0, L1, hd, h0.cut (fun e he hz => ?_), h1.cut (fun e he hz => ?_), h4, k0, k1, hnd, hS, hL⟩
        · rcases k0 with k0 | ⟨e2, he2, hs⟩
          · exact absurd k0 hz
          · rw [he] at he2; cases he2
            have := hs.lt
            omega
        · rcases k1 with k1 | ⟨e2, he2, hs⟩
          · exact absurd k1 hz
          · rw [he] at he2; cases he2
            have := hs.lt
            omega
theorem TreeF.fix {f n : Nat} {S : List Nat} {L : List (Pfx × Int)} (h : TreeF f nds six n S L) : TreeF 130 nds six n S L := h.cut (fun e _ _ => by omega)
end
/-! Sides. -/
theorem same_len {six : Bool} {p q : Pfx} (hp : okP six p) (hq : okP six q) (hc : covP p q = true) (hl : q.len ≤ p.len) : p = q := by
  obtain ⟨c1, c2, c3⟩ := (cov_iff p q).1 hc
  obtain ⟨⟨p0, p1⟩, p2⟩ := (chk_iff p).1 hp.2.2
  obtain ⟨⟨q0, q1⟩, q2⟩ := (chk_iff q).1 hq.2.2
  refine eqP_of ⟨c1, addr_ext hp.2.1 hq.2.1 (fun i hi => ?_), by omega⟩
  by_cases h : (i : Int) < p.len
  · exact c3 i hi h
  · rw [p2 i hi (by omega), q2 i hi (by omega)]
theorem side_of {six : Bool} {p q : Pfx} (hp : okP six p) (hq : okP six q) (hc : covP p q = true) (hne : p ≠ q) : SideP six p (sideB q.addr p.len) q ∧ p.len < 128 := by
  have hlt : p.len < q.len := by
    rcases Int.lt_or_le p.len q.len with h | h
    · exact h
    · exact absurd (same_len hp hq hc h) hne
  have h0 := hp.len0
  have h1 := hq.len0
  refine ⟨⟨hq, hc, hlt, ?_⟩, by omega⟩
  unfold sideB
  rw [decide_eq_true ⟨h0.1, by omega⟩, Bool.true_and]
theorem SideP.trans {six : Bool} {p q r : Pfx} {b c : Bool} (h0 : 0 ≤ p.len) (h : SideP six p b q) (k : SideP six q c r) : SideP six p b r := by
  have h1 := h.lt
  have h2 := h.ok.len0
  refine ⟨k.ok, cov_trans h.cov k.cov, Int.lt_trans h1 k.lt, ?_⟩
  rw [cov_bit (p := p) (n := p.len.toNat) k.cov (by omega) (by have := k.lt; have := k.ok.len0; omega) h1]
  exact h.bit
/-! Looking up. -/
theorem get_behind (q : Pfx) (M : List (Pfx × Int)) (h : ∀ x ∈ M, 0 < cmpP x.1 q) : getT cmpP q M = none := getT_end q [] M h
theorem above_get {nds : List Nd} {six : Bool} (q : Pfx) (hq : okP six q) : ∀ (f F n : Nat) (S : List Nat) (L : List (Pfx × Int)), TreeF f nds six n S L → f + 1 ≤ F → ∃ items, aboveN F nds n q = some items ∧ getI q items = getT cmpP q L
  | f, 0, _, _, _, _, h => by omega
  | 0, F + 1, n, S, L, h, _ => by
    obtain ⟨rfl, rfl, rfl⟩ := h
    exact ⟨[], by unfold aboveN; simp, rfl⟩
  | f + 1, F + 1, n, S, L, h, hF => by
    rcases h with ⟨rfl, rfl, rfl⟩ | ⟨hn, d, S0, S1, L0, L1, hd, h0, h1, h4, k0, k1, hnd, rfl, rfl⟩
    · exact ⟨[], by unfold aboveN; simp, rfl⟩
    · unfold aboveN
      rw [if_neg hn, hd]
      simp only
      by_cases hc : covP d.p q = true
      · rw [if_pos hc]
        by_cases he : d.p = q
        · -- the node itself
          subst he
          have key : ∀ b : Bool, ∃ items, aboveN F nds (d.kid b) d.p = some items ∧ getI d.p items = none := by
            intro b
            cases b
            · obtain ⟨items, e1, e2⟩ := above_get d.p hq f F d.k0 S0 L0 h0 (by omega)
              exact ⟨items, e1, by rw [e2]; exact get_behind _ _ (fun x hx => (h4.left x hx).behind h4.ok)⟩
            · obtain ⟨items, e1, e2⟩ := above_get d.p hq f F d.k1 S1 L1 h1 (by omega)
              exact ⟨items, e1, by rw [e2]; exact get_behind _ _ (fun x hx => (h4.right x hx).behind h4.ok)⟩
          obtain ⟨items, e1, e2⟩ := key (sideB d.p.addr d.p.len)
          rw [e1]
          refine ⟨ownN d ++ items, rfl, ?_⟩
          rw [get_self h4]
          unfold ownN vO
          cases d.held
          · exact e2
          · simp [getI, eqP_self]
        · obtain ⟨hs, _⟩ := side_of h4.ok hq hc he
          have key : ∃ items, aboveN F nds (d.kid (sideB q.addr d.p.len)) q = some items ∧ getI q items = getT cmpP q (nodeL d.p (vO d) L0 L1) := by
            cases hb : sideB q.addr d.p.len with
            | false =>
              rw [hb] at hs
              obtain ⟨items, e1, e2⟩ := above_get q hq f F d.k0 S0 L0 h0 (by omega)
              exact ⟨items, e1, by rw [e2, get_left h4 hs]⟩
            | true =>
              rw [hb] at hs
              obtain ⟨items, e1, e2⟩ := above_get q hq f F d.k1 S1 L1 h1 (by omega)
              exact ⟨items, e1, by rw [e2, get_right h4 hs]⟩
          obtain ⟨items, e1, e2⟩ := key
          rw [e1]
          refine ⟨ownN d ++ items, rfl, ?_⟩
          rw [← e2, getI_no q (ownN d) (fun x hx => ?_)]
          rw [ownN_eq] at hx
          rw [own_mem hx]
          exact eqP_no he
      · rw [if_neg hc]
        refine ⟨[], rfl, ?_⟩
        rw [get_out h4 hq (by simpa using hc)]
        rfl
theorem bit_ofP {six : Bool} (a : List UInt8) (i : Nat) (hi : (i : Int) < mostP six) : bitL (ofP six a 128).addr i = bitL a i := by
  have hm := clamp_le six 128
  have e : clampP six 128 = mostP six := by unfold clampP mostP; cases six <;> rfl
  unfold ofP
  simp only
  rw [e]
  have hm2 : mostP six = 32 ∨ mostP six = 128 := by unfold mostP; cases six <;> simp
  rw [maskL_bit _ _ _ (by omega), decide_eq_true (by omega), Bool.true_and]
theorem cov_look {six : Bool} {p : Pfx} (hp : okP six p) (a : List UInt8) : covP p (ofP six a 128) = hasP p a := by
  obtain ⟨⟨p0, p1⟩, _⟩ := (chk_iff p).1 hp.2.2
  rw [hp.1] at p1
  have e : (ofP six a 128).len = mostP six := by unfold ofP clampP mostP; cases six <;> rfl
  have hm := (clamp_le six 0).2.2
  rw [Bool.eq_iff_iff, cov_iff, has_iff]
  constructor
  · rintro ⟨_, _, h⟩ i hi hl
    rw [h i hi hl, bit_ofP a i (by omega)]
  · intro h
    refine ⟨hp.1.trans rfl, by rw [e]; exact p1, fun i hi hl => ?_⟩
    rw [h i hi hl, bit_ofP a i (by omega)]
theorem above_look {nds : List Nd} {six : Bool} (a : List UInt8) : ∀ (f F n : Nat) (S : List Nat) (L : List (Pfx × Int)), TreeF f nds six n S L → f + 1 ≤ F → ∃ items, aboveN F nds n (ofP six a 128) = some items ∧ items.getLast? = lookT a L
  | f, 0, _, _, _, _, h => by omega
  | 0, F + 1, n, S, L, h, _ => by
    obtain ⟨rfl, rfl, rfl⟩ := h
    exact ⟨[], by unfold aboveN; simp, rfl⟩
  | f + 1, F + 1, n, S, L, h, hF => by
    rcases h with ⟨rfl, rfl, rfl⟩ | ⟨hn, d, S0, S1, L0, L1, hd, h0, h1, h4, k0, k1, hnd, rfl, rfl⟩
    · exact ⟨[], by unfold aboveN; simp, rfl⟩
    · unfold aboveN
      rw [if_neg hn, hd]
      simp only
      rw [cov_look h4.ok a]
      by_cases hc : hasP d.p a = true
      · rw [if_pos hc]
        obtain ⟨i0, e0, g0⟩ := above_look a f F d.k0 S0 L0 h0 (by omega)
        obtain ⟨i1, e1, g1⟩ := above_look a f F d.k1 S1 L1 h1 (by omega)
        have hp0 := h4.ok.len0
        -- which side: where no longer one may be, both are empty
        have key : ∃ items, aboveN F nds (d.kid (sideB (ofP six a 128).addr d.p.len)) (ofP six a 128) = some items ∧ lookT a (nodeL d.p (vO d) L0 L1) = match items.getLast? with | some y => some y | none => (vO d).map (fun x => (d.p, x)) := by
          by_cases hm : d.p.len < mostP six
          · have hm2 := (clamp_le six 0).2.2
            have hs : sideB (ofP six a 128).addr d.p.len = bitL a d.p.len.toNat := by
              unfold sideB
              rw [decide_eq_true ⟨hp0.1, by omega⟩, Bool.true_and, bit_ofP a _ (by omega)]
            rw [hs]
            cases hb : bitL a d.p.len.toNat with
            | false => exact ⟨i0, e0, by rw [look_left h4 a hc hb, g0]; cases lookT a L0 <;> rfl⟩
            | true => exact ⟨i1, e1, by rw [look_right h4 a hc hb, g1]; cases lookT a L1 <;> rfl⟩
          · have none_ : ∀ (b : Bool) (M : List (Pfx × Int)), (∀ x ∈ M, SideP six d.p b x.1) → M = [] := by
              intro b M hM
              cases M with
              | nil => rfl
              | cons x M =>
                have hx := hM x (by simp)
                obtain ⟨⟨_, q1⟩, _⟩ := (chk_iff x.1).1 hx.ok.2.2
                rw [hx.ok.1] at q1
                have := hx.lt
                omega
            have n0 := none_ false L0 h4.left
            have n1 := none_ true L1 h4.right
            have kid : ∀ b, ∃ items, aboveN F nds (d.kid b) (ofP six a 128) = some items ∧ items.getLast? = none := by
              intro b
              cases b
              · exact ⟨i0, e0, by rw [g0, n0]; rfl⟩
              · exact ⟨i1, e1, by rw [g1, n1]; rfl⟩
            obtain ⟨items, e2, e3⟩ := kid (sideB (ofP six a 128).addr d.p.len)
            refine ⟨items, e2, ?_⟩
            rw [e3]
            cases hb : bitL a d.p.len.toNat with
            | false => rw [look_left h4 a hc hb, n0]; rfl
            | true => rw [look_right h4 a hc hb, n1]; rfl
        obtain ⟨items, e2, e3⟩ := key
        rw [e2]
        refine ⟨ownN d ++ items, rfl, ?_⟩
        rw [e3, List.getLast?_append]
        cases items.getLast? with
        | some y => rfl
        | none =>
          unfold ownN vO
          cases d.held <;> rfl
      · rw [if_neg hc]
        refine ⟨[], rfl, ?_⟩
        rw [look_out h4 a (by simpa using hc)]
        rfl
theorem below_tree {nds : List Nd} {six : Bool} : ∀ (f F n : Nat) (S : List Nat) (L : List (Pfx × Int)), TreeF f nds six n S L → f + 1 ≤ F → belowN F nds n = some L
  | f, 0, _, _, _, _, h => by omega
  | 0, F + 1, n, S, L, h, _ => by
    obtain ⟨rfl, rfl, rfl⟩ := h
    unfold belowN; simp
  | f + 1, F + 1, n, S, L, h, hF => by
    rcases h with ⟨rfl, rfl, rfl⟩ | ⟨hn, d, S0, S1, L0, L1, hd, h0, h1, h4, k0, k1, hnd, rfl, rfl⟩
    · unfold belowN; simp
    · unfold belowN
      rw [if_neg hn, hd]
      simp only
      rw [below_tree f F d.k0 S0 L0 h0 (by omega), below_tree f F d.k1 S1 L1 h1 (by omega)]
      simp only
      rw [ownN_eq]
      rfl
end Go.Proofs.Ytbbmckmhgggeeaa

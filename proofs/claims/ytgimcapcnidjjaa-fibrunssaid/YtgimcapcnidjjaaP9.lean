/- A tree of prefixes by its nodes' numbers: what it holds is a list in order; looking through it. Of no memory. A prefix is laid into a tree of prefixes: what it holds then. Of no memory. A prefix is taken out of a tree of prefixes: what it holds then. Of no memory. -/
import Derived.Test.YtgimcapcnidjjaaTabC
import Derived.Test.YtgimcapcnidjjaaTabD
import Derived.Test.YtgimcapcnidjjaaTabB
namespace Go.Proofs.Ytgimcapcnidjjaa
open Go

def vO (d : Nd) : Option Int := if d.held then some d.v else none
theorem ownN_eq (d : Nd) : ownN d = ownL d.p (vO d) := by
  unfold ownN vO ownL
  cases d.held <;> rfl
/-- A kid is none, or its prefix lies below, on its side. -/
def KidP (nds : List Nd) (six : Bool) (p : Pfx) (b : Bool) (k : Nat) : Prop := k = 0 ∨ ∃ e, nds[k]? = some e ∧ SideP six p b e.p
def TreeF : Nat → List Nd → Bool → Nat → List Nat → List (Pfx × Int) → Prop
  | 0, _, _, n, S, L => n = 0 ∧ S = [] ∧ L = []
  | f + 1, nds, six, n, S, L => (n = 0 ∧ S = [] ∧ L = []) ∨ (n ≠ 0 ∧ ∃ d S0 S1 L0 L1, nds[n]? = some d ∧ TreeF f nds six d.k0 S0 L0 ∧ TreeF f nds six d.k1 S1 L1 ∧ Node9 six d.p L0 L1 ∧ KidP nds six d.p false d.k0 ∧ KidP nds six d.p true d.k1 ∧
      (n :: (S0 ++ S1)).Nodup ∧ S = n :: (S0 ++ S1) ∧ L = nodeL d.p (vO d) L0 L1)
section
variable {nds nds' : List Nd} {six : Bool}
theorem TreeF.zero (f : Nat) : TreeF f nds six 0 [] [] := by
  cases f
  · exact ⟨rfl, rfl, rfl⟩
  · exact .inl ⟨rfl, rfl, rfl⟩
theorem TreeF.of_zero : ∀ {f : Nat} {S : List Nat} {L : List (Pfx × Int)}, TreeF f nds six 0 S L → S = [] ∧ L = []
  | 0, _, _, h => ⟨h.2.1, h.2.2⟩
  | _ + 1, _, _, .inl h => ⟨h.2.1, h.2.2⟩
  | _ + 1, _, _, .inr h => absurd rfl h.1
theorem TreeF.mono : ∀ {f f' n : Nat} {S : List Nat} {L : List (Pfx × Int)}, TreeF f nds six n S L → f ≤ f' → TreeF f' nds six n S L
  | 0, f', _, _, _, h, _ => by obtain ⟨rfl, rfl, rfl⟩ := h; exact TreeF.zero f'
  | f + 1, 0, _, _, _, _, hf => by omega
  | f + 1, f' + 1, _, _, _, h, hf => by
    rcases h with h | ⟨h0, d, S0, S1, L0, L1, h1, h2, h3, h4⟩
    · exact .inl h
    · exact .inr ⟨h0, d, S0, S1, L0, L1, h1, h2.mono (by omega), h3.mono (by omega), h4⟩
theorem TreeF.root : ∀ {f n : Nat} {S : List Nat} {L : List (Pfx × Int)}, TreeF f nds six n S L → n ≠ 0 → n ∈ S
  | 0, _, _, _, h, hn => absurd h.1 hn
  | _ + 1, _, _, _, h, hn => by
    rcases h with h | ⟨_, d, S0, S1, L0, L1, _, _, _, _, _, _, _, rfl, _⟩
    · exact absurd h.1 hn
    · simp
theorem TreeF.mem : ∀ {f n : Nat} {S : List Nat} {L : List (Pfx × Int)}, TreeF f nds six n S L → S.Nodup ∧ ∀ k ∈ S, k ≠ 0 ∧ k < nds.length
  | 0, _, _, _, h => by obtain ⟨_, rfl, _⟩ := h; exact ⟨List.nodup_nil, fun _ h => by cases h⟩
  | f + 1, n, S, L, h => by
    rcases h with ⟨_, rfl, _⟩ | ⟨hn, d, S0, S1, L0, L1, hd, h0, h1, _, _, _, hnd, rfl, _⟩
    · exact ⟨List.nodup_nil, fun _ h => by cases h⟩
    · refine ⟨hnd, fun k hk => ?_⟩
      rcases List.mem_cons.1 hk with rfl | hk
      · exact ⟨hn, (List.getElem?_eq_some_iff.1 hd).1⟩
      · rcases List.mem_append.1 hk with hk | hk
        · exact h0.mem.2 k hk
        · exact h1.mem.2 k hk
/-- It is as it was where its nodes are. -/
theorem TreeF.frame : ∀ {f n : Nat} {S : List Nat} {L : List (Pfx × Int)}, TreeF f nds six n S L → (∀ k ∈ S, nds'[k]? = nds[k]?) → TreeF f nds' six n S L
  | 0, _, _, _, h, _ => h
  | f + 1, n, S, L, h, hk => by
    rcases h with h | ⟨hn, d, S0, S1, L0, L1, hd, h0, h1, h4, k0, k1, hnd, rfl, hL⟩
    · exact .inl h
    · refine .inr ⟨hn, d, S0, S1, L0, L1, (hk n (by simp)).trans hd, h0.frame (fun k h => hk k (by simp [h])), h1.frame (fun k h => hk k (by simp [h])), h4, ?_, ?_, hnd, rfl, hL⟩
      · rcases k0 with e | ⟨e, he, hs⟩
        · exact .inl e
        · by_cases hz : d.k0 = 0
          · exact .inl hz
          · exact .inr ⟨e, (hk _ (by simp [h0.root hz])).trans he, hs⟩
      · rcases k1 with e | ⟨e, he, hs⟩
        · exact .inl e
        · by_cases hz : d.k1 = 0
          · exact .inl hz
          · exact .inr ⟨e, (hk _ (by simp [h1.root hz])).trans he, hs⟩
theorem TreeF.order : ∀ {f n : Nat} {S : List Nat} {L : List (Pfx × Int)}, TreeF f nds six n S L → InOrder cmpP (okP six) L
  | 0, _, _, _, h => by obtain ⟨_, _, rfl⟩ := h; exact InOrder.nil
  | _ + 1, _, _, _, h => by
    rcases h with ⟨_, _, rfl⟩ | ⟨_, d, S0, S1, L0, L1, _, _, _, h4, _, _, _, _, rfl⟩
    · exact InOrder.nil
    · exact node_order h4
/-- A tree is no deeper than lengths allow. -/
theorem TreeF.cut : ∀ {f f' n : Nat} {S : List Nat} {L : List (Pfx × Int)}, TreeF f nds six n S L → (∀ e, nds[n]? = some e → n ≠ 0 → 129 ≤ e.p.len.toNat + f') → TreeF f' nds six n S L
  | 0, f', _, _, _, h, _ => by obtain ⟨rfl, rfl, rfl⟩ := h; exact TreeF.zero f'
  | f + 1, f', n, S, L, h, hf => by
    rcases h with ⟨rfl, rfl, rfl⟩ | ⟨hn, d, S0, S1, L0, L1, hd, h0, h1, h4, k0, k1, hnd, hS, hL⟩
    · exact TreeF.zero f'
    · have h5 := hf d hd hn
      have h6 := h4.ok.len0
      cases f' with
      | zero => omega
      | succ f' =>
        refine .inr ⟨hn, d, S0, S1, L0, L1, hd, h0.cut (fun e he hz => ?_), h1.cut (fun e he hz => ?_), h4, k0, k1, hnd, hS, hL⟩
        · rcases k0 with k0 | ⟨e2, he2, hs⟩
          · exact absurd k0 hz
          · rw [he] at he2; cases he2
            have := hs.lt
            omega
        · rcases k1 with k1 | ⟨e2, he2, hs⟩
          · exact absurd k1 hz
          · rw [he] at he2; cases he2
            have := hs.lt
            omega
theorem TreeF.fix {f n : Nat} {S : List Nat} {L : List (Pfx × Int)} (h : TreeF f nds six n S L) : TreeF 130 nds six n S L := h.cut (fun e _ _ => by omega)
end
/-! Sides. -/
theorem same_len {six : Bool} {p q : Pfx} (hp : okP six p) (hq : okP six q) (hc : covP p q = true) (hl : q.len ≤ p.len) : p = q := by
  obtain ⟨c1, c2, c3⟩ := (cov_iff p q).1 hc
  obtain ⟨⟨p0, p1⟩, p2⟩ := (chk_iff p).1 hp.2.2
  obtain ⟨⟨q0, q1⟩, q2⟩ := (chk_iff q).1 hq.2.2
  refine eqP_of ⟨c1, addr_ext hp.2.1 hq.2.1 (fun i hi => ?_), by omega⟩
  by_cases h : (i : Int) < p.len
  · exact c3 i hi h
  · rw [p2 i hi (by omega), q2 i hi (by omega)]
theorem side_of {six : Bool} {p q : Pfx} (hp : okP six p) (hq : okP six q) (hc : covP p q = true) (hne : p ≠ q) : SideP six p (sideB q.addr p.len) q ∧ p.len < 128 := by
  have hlt : p.len < q.len := by
    rcases Int.lt_or_le p.len q.len with h | h
    · exact h
    · exact absurd (same_len hp hq hc h) hne
  have h0 := hp.len0
  have h1 := hq.len0
  refine ⟨⟨hq, hc, hlt, ?_⟩, by omega⟩
  unfold sideB
  rw [decide_eq_true ⟨h0.1, by omega⟩, Bool.true_and]
theorem SideP.trans {six : Bool} {p q r : Pfx} {b c : Bool} (h0 : 0 ≤ p.len) (h : SideP six p b q) (k : SideP six q c r) : SideP six p b r := by
  have h1 := h.lt
  have h2 := h.ok.len0
  refine ⟨k.ok, cov_trans h.cov k.cov, Int.lt_trans h1 k.lt, ?_⟩
  rw [cov_bit (p := p) (n := p.len.toNat) k.cov (by omega) (by have := k.lt; have := k.ok.len0; omega) h1]
  exact h.bit
/-! Looking up. -/
theorem get_behind (q : Pfx) (M : List (Pfx × Int)) (h : ∀ x ∈ M, 0 < cmpP x.1 q) : getT cmpP q M = none := getT_end q [] M h
theorem above_get {nds : List Nd} {six : Bool} (q : Pfx) (hq : okP six q) : ∀ (f F n : Nat) (S : List Nat) (L : List (Pfx × Int)), TreeF f nds six n S L → f + 1 ≤ F → ∃ items, aboveN F nds n q = some items ∧ getI q items = getT cmpP q L
  | f, 0, _, _, _, _, h => by omega
  | 0, F + 1, n, S, L, h, _ => by
    obtain ⟨rfl, rfl, rfl⟩ := h
    exact ⟨[], by unfold aboveN; simp, rfl⟩
  | f + 1, F + 1, n, S, L, h, hF => by
    rcases h with ⟨rfl, rfl, rfl⟩ | ⟨hn, d, S0, S1, L0, L1, hd, h0, h1, h4, k0, k1, hnd, rfl, rfl⟩
    · exact ⟨[], by unfold aboveN; simp, rfl⟩
    · unfold aboveN
      rw [if_neg hn, hd]
      simp only
      by_cases hc : covP d.p q = true
      · rw [if_pos hc]
        by_cases he : d.p = q
        · -- the node itself
          subst he
          have key : ∀ b : Bool, ∃ items, aboveN F nds (d.kid b) d.p = some items ∧ getI d.p items = none := by
            intro b
            cases b
            · obtain ⟨items, e1, e2⟩ := above_get d.p hq f F d.k0 S0 L0 h0 (by omega)
              exact ⟨items, e1, by rw [e2]; exact get_behind _ _ (fun x hx => (h4.left x hx).behind h4.ok)⟩
            · obtain ⟨items, e1, e2⟩ := above_get d.p hq f F d.k1 S1 L1 h1 (by omega)
              exact ⟨items, e1, by rw [e2]; exact get_behind _ _ (fun x hx => (h4.right x hx).behind h4.ok)⟩
          obtain ⟨items, e1, e2⟩ := key (sideB d.p.addr d.p.len)
          rw [e1]
          refine ⟨ownN d ++ items, rfl, ?_⟩
          rw [get_self h4]
          unfold ownN vO
          cases d.held
          · exact e2
          · simp [getI, eqP_self]
        · obtain ⟨hs, _⟩ := side_of h4.ok hq hc he
          have key : ∃ items, aboveN F nds (d.kid (sideB q.addr d.p.len)) q = some items ∧ getI q items = getT cmpP q (nodeL d.p (vO d) L0 L1) := by
            cases hb : sideB q.addr d.p.len with
            | false =>
              rw [hb] at hs
              obtain ⟨items, e1, e2⟩ := above_get q hq f F d.k0 S0 L0 h0 (by omega)
              exact ⟨items, e1, by rw [e2, get_left h4 hs]⟩
            | true =>
              rw [hb] at hs
              obtain ⟨items, e1, e2⟩ := above_get q hq f F d.k1 S1 L1 h1 (by omega)
              exact ⟨items, e1, by rw [e2, get_right h4 hs]⟩
          obtain ⟨items, e1, e2⟩ := key
          rw [e1]
          refine ⟨ownN d ++ items, rfl, ?_⟩
          rw [← e2, getI_no q (ownN d) (fun x hx => ?_)]
          rw [ownN_eq] at hx
          rw [own_mem hx]
          exact eqP_no he
      · rw [if_neg hc]
        refine ⟨[], rfl, ?_⟩
        rw [get_out h4 hq (by simpa using hc)]
        rfl
theorem bit_ofP {six : Bool} (a : List UInt8) (i : Nat) (hi : (i : Int) < mostP six) : bitL (ofP six a 128).addr i = bitL a i := by
  have hm := clamp_le six 128
  have e : clampP six 128 = mostP six := by unfold clampP mostP; cases six <;> rfl
  unfold ofP
  simp only
  rw [e]
  have hm2 : mostP six = 32 ∨ mostP six = 128 := by unfold mostP; cases six <;> simp
  rw [maskL_bit _ _ _ (by omega), decide_eq_true (by omega), Bool.true_and]
theorem cov_look {six : Bool} {p : Pfx} (hp : okP six p) (a : List UInt8) : covP p (ofP six a 128) = hasP p a := by
  obtain ⟨⟨p0, p1⟩, _⟩ := (chk_iff p).1 hp.2.2
  rw [hp.1] at p1
  have e : (ofP six a 128).len = mostP six := by unfold ofP clampP mostP; cases six <;> rfl
  have hm := (clamp_le six 0).2.2
  rw [Bool.eq_iff_iff, cov_iff, has_iff]
  constructor
  · rintro ⟨_, _, h⟩ i hi hl
    rw [h i hi hl, bit_ofP a i (by omega)]
  · intro h
    refine ⟨hp.1.trans rfl, by rw [e]; exact p1, fun i hi hl => ?_⟩
    rw [h i hi hl, bit_ofP a i (by omega)]
theorem above_look {nds : List Nd} {six : Bool} (a : List UInt8) : ∀ (f F n : Nat) (S : List Nat) (L : List (Pfx × Int)), TreeF f nds six n S L → f + 1 ≤ F → ∃ items, aboveN F nds n (ofP six a 128) = some items ∧ items.getLast? = lookT a L
  | f, 0, _, _, _, _, h => by omega
  | 0, F + 1, n, S, L, h, _ => by
    obtain ⟨rfl, rfl, rfl⟩ := h
    exact ⟨[], by unfold aboveN; simp, rfl⟩
  | f + 1, F + 1, n, S, L, h, hF => by
    rcases h with ⟨rfl, rfl, rfl⟩ | ⟨hn, d, S0, S1, L0, L1, hd, h0, h1, h4, k0, k1, hnd, rfl, rfl⟩
    · exact ⟨[], by unfold aboveN; simp, rfl⟩
    · unfold aboveN
      rw [if_neg hn, hd]
      simp only
      rw [cov_look h4.ok a]
      by_cases hc : hasP d.p a = true
      · rw [if_pos hc]
        obtain ⟨i0, e0, g0⟩ := above_look a f F d.k0 S0 L0 h0 (by omega)
        obtain ⟨i1, e1, g1⟩ := above_look a f F d.k1 S1 L1 h1 (by omega)
        have hp0 := h4.ok.len0
        -- which side: where no longer one may be, both are empty
        have key : ∃ items, aboveN F nds (d.kid (sideB (ofP six a 128).addr d.p.len)) (ofP six a 128) = some items ∧ lookT a (nodeL d.p (vO d) L0 L1) = match items.getLast? with | some y => some y | none => (vO d).map (fun x => (d.p, x)) := by
          by_cases hm : d.p.len < mostP six
          · have hm2 := (clamp_le six 0).2.2
            have hs : sideB (ofP six a 128).addr d.p.len = bitL a d.p.len.toNat := by
              unfold sideB
              rw [decide_eq_true ⟨hp0.1, by omega⟩, Bool.true_and, bit_ofP a _ (by omega)]
            rw [hs]
            cases hb : bitL a d.p.len.toNat with
            | false => exact ⟨i0, e0, by rw [look_left h4 a hc hb, g0]; cases lookT a L0 <;> rfl⟩
            | true => exact ⟨i1, e1, by rw [look_right h4 a hc hb, g1]; cases lookT a L1 <;> rfl⟩
          · have none_ : ∀ (b : Bool) (M : List (Pfx × Int)), (∀ x ∈ M, SideP six d.p b x.1) → M = [] := by
              intro b M hM
              cases M with
              | nil => rfl
              | cons x M =>
                have hx := hM x (by simp)
                obtain ⟨⟨_, q1⟩, _⟩ := (chk_iff x.1).1 hx.ok.2.2
                rw [hx.ok.1] at q1
                have := hx.lt
                omega
            have n0 := none_ false L0 h4.left
            have n1 := none_ true L1 h4.right
            have kid : ∀ b, ∃ items, aboveN F nds (d.kid b) (ofP six a 128) = some items ∧ items.getLast? = none := by
              intro b
              cases b
              · exact ⟨i0, e0, by rw [g0, n0]; rfl⟩
              · exact ⟨i1, e1, by rw [g1, n1]; rfl⟩
            obtain ⟨items, e2, e3⟩ := kid (sideB (ofP six a 128).addr d.p.len)
            refine ⟨items, e2, ?_⟩
            rw [e3]
            cases hb : bitL a d.p.len.toNat with
            | false => rw [look_left h4 a hc hb, n0]; rfl
            | true => rw [look_right h4 a hc hb, n1]; rfl
        obtain ⟨items, e2, e3⟩ := key
        rw [e2]
        refine ⟨ownN d ++ items, rfl, ?_⟩
        rw [e3, List.getLast?_append]
        cases items.getLast? with
        | some y => rfl
        | none =>
          unfold ownN vO
          cases d.held <;> rfl
      · rw [if_neg hc]
        refine ⟨[], rfl, ?_⟩
        rw [look_out h4 a (by simpa using hc)]
        rfl
theorem below_tree {nds : List Nd} {six : Bool} : ∀ (f F n : Nat) (S : List Nat) (L : List (Pfx × Int)), TreeF f nds six n S L → f + 1 ≤ F → belowN F nds n = some L
  | f, 0, _, _, _, _, h => by omega
  | 0, F + 1, n, S, L, h, _ => by
    obtain ⟨rfl, rfl, rfl⟩ := h
    unfold belowN; simp
  | f + 1, F + 1, n, S, L, h, hF => by
    rcases h with ⟨rfl, rfl, rfl⟩ | ⟨hn, d, S0, S1, L0, L1, hd, h0, h1, h4, k0, k1, hnd, rfl, rfl⟩
    · unfold belowN; simp
    · unfold belowN
      rw [if_neg hn, hd]
      simp only
      rw [below_tree f F d.k0 S0 L0 h0 (by omega), below_tree f F d.k1 S1 L1 h1 (by omega)]
      simp only
      rw [ownN_eq]
      rfl
end Go.Proofs.Ytgimcapcnidjjaa
namespace Go.Proofs.Ytgimcapcnidjjaa
open Go

structure Same4 (T T' : Tb) : Prop where
  six : T'.six = T.six
  room : T'.room = T.room
  count : T'.count = T.count
  root : T'.root = T.root
theorem Same4.trans {A B C : Tb} (h : Same4 A B) (k : Same4 B C) : Same4 A C := ⟨k.six.trans h.six, k.room.trans h.room, k.count.trans h.count, k.root.trans h.root⟩
theorem take_ok (T : Tb) (d : Nd) (hlen : 1 ≤ T.nds.length) (hf : ∀ k ∈ T.free, k ≠ 0 ∧ k < T.nds.length) (hnd : T.free.Nodup) :
    ∃ r T', takeN T d = some (r, T') ∧ r ≠ 0 ∧ r < T'.nds.length ∧ (r ∈ T.free ∨ T.nds.length ≤ r) ∧ T'.nds[r]? = some d ∧ (∀ k, k ≠ r → k < T.nds.length → T'.nds[k]? = T.nds[k]?) ∧ T.nds.length ≤ T'.nds.length ∧ (∀ k ∈ T'.free, k ∈ T.free ∧ k ≠ r) ∧ T'.free.Nodup ∧ Same4 T T' := by
  rcases List.eq_nil_or_concat T.free with h | ⟨fr, n, h⟩
  · refine ⟨T.nds.length, { T with nds := T.nds ++ [d] }, by unfold takeN; rw [h]; rfl, by omega, by simp, .inr (Nat.le_refl _), by simp, fun k _ hk => by simp [List.getElem?_append_left hk], by simp, fun k hk => ?_, hnd, ⟨rfl, rfl, rfl, rfl⟩⟩
    rw [h] at hk
    cases hk
  · rw [List.concat_eq_append] at h
    have hn := hf n (by rw [h]; simp)
    rw [h, List.nodup_append] at hnd
    refine ⟨n, { T with nds := T.nds.set n d, free := fr }, ?_, hn.1, by simpa using hn.2, .inl (by rw [h]; simp), by simp [hn.2], fun k hk _ => List.getElem?_set_ne (fun e => hk e.symm), by simp, fun k hk => ⟨by rw [h]; simp [show k ∈ fr from hk], fun e => hnd.2.2 k hk n (by simp) e⟩, hnd.1, ⟨rfl, rfl, rfl, rfl⟩⟩
    unfold takeN
    rw [h, List.getLast?_append]
    simp only [List.getLast?_singleton, Option.some_or, List.dropLast_concat]
    rw [if_pos hn.2]
structure PutR (six : Bool) (T : Tb) (n : Nat) (S : List Nat) (p : Pfx) (T' : Tb) (r : Nat) (S' : List Nat) : Prop where
  nz : r ≠ 0
  keep : ∀ k, k < T.nds.length → k ∉ S → k ∉ T.free → T'.nds[k]? = T.nds[k]?
  sub : ∀ k ∈ S', k ∈ S ∨ k ∈ T.free ∨ T.nds.length ≤ k
  free : ∀ k ∈ T'.free, k ∈ T.free ∧ k ∉ S'
  fnd : T'.free.Nodup
  len : T.nds.length ≤ T'.nds.length
  top : ∃ e, T'.nds[r]? = some e ∧ ∀ q b, 0 ≤ q.len → SideP six q b p → (n ≠ 0 → ∀ e0, T.nds[n]? = some e0 → SideP six q b e0.p) → SideP six q b e.p
  same : Same4 T T'
theorem node_empty {six : Bool} {p : Pfx} (hp : okP six p) : Node9 six p [] [] := ⟨hp, InOrder.nil, InOrder.nil, (fun _ h => by cases h), (fun _ h => by cases h)⟩
/-- A leaf. -/
theorem put_leaf {six : Bool} {p : Pfx} (hp : okP six p) (v : Int) (T : Tb) (f : Nat) (hlen : 1 ≤ T.nds.length) (hf : ∀ k ∈ T.free, k ≠ 0 ∧ k < T.nds.length) (hnd : T.free.Nodup) :
    ∃ r T', takeN T ⟨p, v, true, 0, 0⟩ = some (r, T') ∧ TreeF (f + 1) T'.nds six r [r] [(p, v)] ∧ PutR six T 0 [] p T' r [r] ∧ T'.nds[r]? = some ⟨p, v, true, 0, 0⟩ := by
  obtain ⟨r, T', e1, e2, e3, e4, e5, e6, e7, e8, e9, e10⟩ := take_ok T ⟨p, v, true, 0, 0⟩ hlen hf hnd
  refine ⟨r, T', e1, .inr ⟨e2, _, [], [], [], [], e5, TreeF.zero f, TreeF.zero f, node_empty hp, .inl rfl, .inl rfl, by simp, rfl, rfl⟩, ⟨e2, fun k hk _ hF => e6 k (fun e => ?_) hk, fun k hk => ?_, fun k hk => ⟨(e8 k hk).1, fun hm => (e8 k hk).2 (List.mem_singleton.1 hm)⟩, e9, e7, ⟨_, e5, fun q b _ h _ => h⟩, e10⟩, e5⟩
  · subst e
    rcases e4 with h | h
    · exact hF h
    · omega
  · rw [List.mem_singleton.1 hk]
    rcases e4 with h | h
    · exact .inr (.inl h)
    · exact .inr (.inr h)
set_option maxHeartbeats 1000000 in
theorem put_tree {six : Bool} {p : Pfx} (hp : okP six p) (v : Int) : ∀ (f F : Nat) (T : Tb) (n : Nat) (S : List Nat) (L : List (Pfx × Int)), TreeF f T.nds six n S L → 1 ≤ T.nds.length → (∀ k ∈ T.free, k ≠ 0 ∧ k < T.nds.length ∧ k ∉ S) → T.free.Nodup → f + 2 ≤ F →
    ∃ r T' S', putN (F + 1) T n p v = some (r, T') ∧ TreeF (f + 1) T'.nds six r S' (putT cmpP p v L) ∧ PutR six T n S p T' r S'
  | f, 0, _, _, _, _, _, _, _, _, h => by omega
  | 0, F + 1, T, n, S, L, h, hlen, hfr, hfn, _ => by
    obtain ⟨rfl, rfl, rfl⟩ := h
    obtain ⟨r, T', e1, e2, e3, _⟩ := put_leaf hp v T 0 hlen (fun k hk => ⟨(hfr k hk).1, (hfr k hk).2.1⟩) hfn
    exact ⟨r, T', [r], by unfold putN; rw [if_pos rfl]; exact e1, e2, e3⟩
  | f + 1, F + 1, T, n, S, L, h, hlen, hfr, hfn, hF => by
    rcases h with ⟨rfl, rfl, rfl⟩ | ⟨hn, d, S0, S1, L0, L1, hd, h0, h1, h4, k0, k1, hnd, rfl, rfl⟩
    · obtain ⟨r, T', e1, e2, e3, _⟩ := put_leaf hp v T (f + 1) hlen (fun k hk => ⟨(hfr k hk).1, (hfr k hk).2.1⟩) hfn
      exact ⟨r, T', [r], by unfold putN; rw [if_pos rfl]; exact e1, e2, e3⟩
    have hnl : n < T.nds.length := (List.getElem?_eq_some_iff.1 hd).1
    have nd_n := (List.nodup_cons.1 hnd).1
    have hdis : ∀ k, k ∈ S0 → k ∈ S1 → False := fun k a b => (List.nodup_append.1 (List.nodup_cons.1 hnd).2).2.2 k a k b rfl
    by_cases hq : d.p = p
    · -- the node itself
      subst hq
      have g : ∀ k ∈ S0 ++ S1, (T.nds.set n ⟨d.p, v, true, d.k0, d.k1⟩)[k]? = T.nds[k]? := fun k hk => List.getElem?_set_ne (fun e => nd_n (by rw [e]; exact hk))
      have kid : ∀ (b : Bool) (k : Nat) (S : List Nat) (L : List (Pfx × Int)), TreeF f T.nds six k S L → (∀ j ∈ S, j ∈ S0 ++ S1) → KidP T.nds six d.p b k → KidP (T.nds.set n ⟨d.p, v, true, d.k0, d.k1⟩) six d.p b k := by
        intro b k S L hT hS hk
        rcases hk with k | ⟨e2, q1, q2⟩
        · exact .inl k
        · by_cases hz : k = 0
          · exact .inl hz
          · exact .inr ⟨e2, (g _ (hS _ (hT.root hz))).trans q1, q2⟩
      refine ⟨n, { T with nds := T.nds.set n ⟨d.p, v, true, d.k0, d.k1⟩ }, n :: (S0 ++ S1), ?_, .inr ⟨hn, ⟨d.p, v, true, d.k0, d.k1⟩, S0, S1, L0, L1, by simp [hnl], (h0.frame (fun k hk => g k (by simp [hk]))).mono (by omega), (h1.frame (fun k hk => g k (by simp [hk]))).mono (by omega), h4, kid false _ S0 L0 h0 (fun j hj => by simp [hj]) k0, kid true _ S1 L1 h1 (fun j hj => by simp [hj]) k1, hnd, rfl, ?_⟩, ?_⟩
      · unfold putN
        rw [if_neg hn, hd]
        simp only
        rw [if_pos (eqP_self _)]
      · rw [put_self h4 v]
        rfl
      · refine ⟨hn, fun k _ hS _ => List.getElem?_set_ne (fun e => hS (by rw [e]; simp)), fun k hk => .inl hk, fun k hk => ⟨hk, (hfr k hk).2.2⟩, hfn, by simp, ⟨⟨d.p, v, true, d.k0, d.k1⟩, by simp [hnl], fun q b _ h _ => h⟩, ⟨rfl, rfl, rfl, rfl⟩⟩
    have he : eqP d.p p = false := eqP_no hq
    by_cases hc : covP d.p p = true
    · -- below it
      obtain ⟨hs, _⟩ := side_of h4.ok hp hc hq
      cases hb : sideB p.addr d.p.len with
      | false =>
        rw [hb] at hs
        obtain ⟨r1, T1, S1', e1, t1, R⟩ := put_tree hp v f F T d.k0 S0 L0 h0 hlen (fun k hk => ⟨(hfr k hk).1, (hfr k hk).2.1, fun hm => (hfr k hk).2.2 (by simp [hm])⟩) hfn (by omega)
        have hnS : n ∉ S0 := fun hm => nd_n (by simp [hm])
        have hnF : n ∉ T.free := fun hm => (hfr n hm).2.2 (by simp)
        have hd1 : T1.nds[n]? = some d := (R.keep n hnl hnS hnF).trans hd
        have hn1 : n < T1.nds.length := (List.getElem?_eq_some_iff.1 hd1).1
        have hnS' : n ∉ S1' := fun hm => by
          rcases R.sub n hm with h | h | h
          · exact hnS h
          · exact hnF h
          · omega
        have hoth : ∀ k ∈ S1, k ∉ S1' := fun k hk hm => by
          rcases R.sub k hm with h | h | h
          · exact hdis k h hk
          · exact (hfr k h).2.2 (by simp [hk])
          · have := (h1.mem.2 k hk).2; omega
        have g1 : ∀ k ∈ S1', (T1.nds.set n (d.setKid false r1))[k]? = T1.nds[k]? := fun k hk => List.getElem?_set_ne (fun e => hnS' (by rw [e]; exact hk))
        have g2 : ∀ k ∈ S1, (T1.nds.set n (d.setKid false r1))[k]? = T.nds[k]? := fun k hk => by
          rw [List.getElem?_set_ne (fun e => nd_n (by rw [e]; simp [hk]))]
          exact R.keep k (h1.mem.2 k hk).2 (fun hm => hdis k hm hk) (fun hm => (hfr k hm).2.2 (by simp [hk]))
        refine ⟨n, { T1 with nds := T1.nds.set n (d.setKid false r1) }, n :: (S1' ++ S1), ?_, .inr ⟨hn, d.setKid false r1, S1', S1, (putT cmpP p v L0), L1, by simp [hn1], (t1.frame g1), ((h1.mono (by omega)).frame g2), ?_, (by
          obtain ⟨e, he1, he2⟩ := R.top
          refine .inr ⟨e, ?_, he2 d.p false h4.ok.len0.1 hs (fun hz e0 he0 => ?_)⟩
          · exact (g1 _ (t1.root R.nz)).trans he1
          · rcases k0 with k | ⟨e2, q1, q2⟩
            · exact absurd k hz
            · rw [he0] at q1; cases q1; exact q2), (by
          rcases k1 with k | ⟨e2, q1, q2⟩
          · exact .inl k
          · by_cases hz : d.k1 = 0
            · exact .inl hz
            · exact .inr ⟨e2, (g2 _ (h1.root hz)).trans q1, q2⟩), ?_, rfl, ?_⟩, ?_⟩
        · unfold putN
          rw [if_neg hn, hd]
          simp only
          rw [if_neg (by rw [he]; simp), if_pos hc, hb, show d.kid false = d.k0 from rfl, e1]
          simp only
          rw [hd1]
        · exact ⟨h4.ok, put_order (cmpP_ord6 six) p hp v L0 h4.ordL, h4.ordR, fun x hx => (put_mem p v L0 x hx).elim (fun e => by rw [e]; exact hs) (h4.left x), h4.right⟩
        · refine List.nodup_cons.2 ⟨fun hm => ?_, ?_⟩
          · rcases List.mem_append.1 hm with hm | hm
            · exact hnS' hm
            · exact nd_n (by simp [hm])
          · exact List.nodup_append.2 ⟨t1.mem.1, h1.mem.1, fun a ha b hb2 e => by subst e; exact hoth a hb2 ha⟩
        · show putT cmpP p v (nodeL d.p (vO d) L0 L1) = _
          rw [put_left h4 hs v]
          rfl
        · refine ⟨hn, fun k hk hS hF => ?_, fun k hk => ?_, fun k hk => ?_, R.fnd, by simpa using R.len, ⟨d.setKid false r1, by simp [hn1], fun q b _ _ h => by rw [setKid_len]; exact h hn d hd⟩, ⟨R.same.six, R.same.room, R.same.count, R.same.root⟩⟩
          · rw [List.getElem?_set_ne (fun e => hS (by rw [e]; simp))]
            exact R.keep k hk (fun hm => hS (by simp [hm])) hF
          · rcases List.mem_cons.1 hk with rfl | hk
            · exact .inl (by simp)
            · rcases List.mem_append.1 hk with hk | hk
              · rcases R.sub k hk with h | h | h
                · exact .inl (by simp [h])
                · exact .inr (.inl h)
                · exact .inr (.inr h)
              · exact .inl (by simp [hk])
          · refine ⟨(R.free k hk).1, fun hm => ?_⟩
            rcases List.mem_cons.1 hm with rfl | hm
            · exact hnF (R.free _ hk).1
            · rcases List.mem_append.1 hm with hm | hm
              · exact (R.free k hk).2 hm
              · exact (hfr k (R.free k hk).1).2.2 (by simp [hm])
      | true =>
        rw [hb] at hs
        obtain ⟨r1, T1, S1', e1, t1, R⟩ := put_tree hp v f F T d.k1 S1 L1 h1 hlen (fun k hk => ⟨(hfr k hk).1, (hfr k hk).2.1, fun hm => (hfr k hk).2.2 (by simp [hm])⟩) hfn (by omega)
        have hnS : n ∉ S1 := fun hm => nd_n (by simp [hm])
        have hnF : n ∉ T.free := fun hm => (hfr n hm).2.2 (by simp)
        have hd1 : T1.nds[n]? = some d := (R.keep n hnl hnS hnF).trans hd
        have hn1 : n < T1.nds.length := (List.getElem?_eq_some_iff.1 hd1).1
        have hnS' : n ∉ S1' := fun hm => by
          rcases R.sub n hm with h | h | h
          · exact hnS h
          · exact hnF h
          · omega
        have hoth : ∀ k ∈ S0, k ∉ S1' := fun k hk hm => by
          rcases R.sub k hm with h | h | h
          · exact hdis k hk h
          · exact (hfr k h).2.2 (by simp [hk])
          · have := (h0.mem.2 k hk).2; omega
        have g1 : ∀ k ∈ S1', (T1.nds.set n (d.setKid true r1))[k]? = T1.nds[k]? := fun k hk => List.getElem?_set_ne (fun e => hnS' (by rw [e]; exact hk))
        have g2 : ∀ k ∈ S0, (T1.nds.set n (d.setKid true r1))[k]? = T.nds[k]? := fun k hk => by
          rw [List.getElem?_set_ne (fun e => nd_n (by rw [e]; simp [hk]))]
          exact R.keep k (h0.mem.2 k hk).2 (fun hm => hdis k hk hm) (fun hm => (hfr k hm).2.2 (by simp [hk]))
        refine ⟨n, { T1 with nds := T1.nds.set n (d.setKid true r1) }, n :: (S0 ++ S1'), ?_, .inr ⟨hn, d.setKid true r1, S0, S1', L0, (putT cmpP p v L1), by simp [hn1], ((h0.mono (by omega)).frame g2), (t1.frame g1), ?_, (by
          rcases k0 with k | ⟨e2, q1, q2⟩
          · exact .inl k
          · by_cases hz : d.k0 = 0
            · exact .inl hz
            · exact .inr ⟨e2, (g2 _ (h0.root hz)).trans q1, q2⟩), (by
          obtain ⟨e, he1, he2⟩ := R.top
          refine .inr ⟨e, ?_, he2 d.p true h4.ok.len0.1 hs (fun hz e0 he0 => ?_)⟩
          · exact (g1 _ (t1.root R.nz)).trans he1
          · rcases k1 with k | ⟨e2, q1, q2⟩
            · exact absurd k hz
            · rw [he0] at q1; cases q1; exact q2), ?_, rfl, ?_⟩, ?_⟩
        · unfold putN
          rw [if_neg hn, hd]
          simp only
          rw [if_neg (by rw [he]; simp), if_pos hc, hb, show d.kid true = d.k1 from rfl, e1]
          simp only
          rw [hd1]
        · exact ⟨h4.ok, h4.ordL, put_order (cmpP_ord6 six) p hp v L1 h4.ordR, h4.left, fun x hx => (put_mem p v L1 x hx).elim (fun e => by rw [e]; exact hs) (h4.right x)⟩
        · refine List.nodup_cons.2 ⟨fun hm => ?_, ?_⟩
          · rcases List.mem_append.1 hm with hm | hm
            · exact nd_n (by simp [hm])
            · exact hnS' hm
          · exact List.nodup_append.2 ⟨h0.mem.1, t1.mem.1, fun a ha b hb2 e => by subst e; exact hoth a ha hb2⟩
        · show putT cmpP p v (nodeL d.p (vO d) L0 L1) = _
          rw [put_right h4 hs v]
          rfl
        · refine ⟨hn, fun k hk hS hF => ?_, fun k hk => ?_, fun k hk => ?_, R.fnd, by simpa using R.len, ⟨d.setKid true r1, by simp [hn1], fun q b _ _ h => by rw [setKid_len]; exact h hn d hd⟩, ⟨R.same.six, R.same.room, R.same.count, R.same.root⟩⟩
          · rw [List.getElem?_set_ne (fun e => hS (by rw [e]; simp))]
            exact R.keep k hk (fun hm => hS (by simp [hm])) hF
          · rcases List.mem_cons.1 hk with rfl | hk
            · exact .inl (by simp)
            · rcases List.mem_append.1 hk with hk | hk
              · exact .inl (by simp [hk])
              · rcases R.sub k hk with h | h | h
                · exact .inl (by simp [h])
                · exact .inr (.inl h)
                · exact .inr (.inr h)
          · refine ⟨(R.free k hk).1, fun hm => ?_⟩
            rcases List.mem_cons.1 hm with rfl | hm
            · exact hnF (R.free _ hk).1
            · rcases List.mem_append.1 hm with hm | hm
              · exact (hfr k (R.free k hk).1).2.2 (by simp [hm])
              · exact (R.free k hk).2 hm
    · -- two part
      have hc : covP d.p p = false := by simpa using hc
      have h6 : d.p.six = p.six := h4.ok.1.trans hp.1.symm
      obtain ⟨q1, q2, q3, q4, _⟩ := com_cov h6 h4.ok.2.2 hp.2.2
      have hcv : comV d.p p = ofP d.p.six d.p.addr (comP d.p p) := by unfold comV; rw [if_pos h6]
      rw [← hcv] at q1 q2 q3 q4
      have hstop := (com_ok d.p p h4.ok.len0.1 hp.len0.1 128 0 (by omega) (by have := h4.ok.len0; omega) (by have := hp.len0; omega) (fun i hi => by omega)).2.2.2.2.2
      generalize hcd : comV d.p p = c at *
      have hck : okP six c := ⟨by rw [hcv]; exact h4.ok.1, by rw [hcv]; exact of_len _ _ _, q1⟩
      have hcn : c ≠ d.p := fun e => by rw [e, hc] at q3; cases q3
      obtain ⟨s0, s0l⟩ := side_of hck h4.ok q2 hcn
      have hfr2 : ∀ k ∈ T.free, k ≠ 0 ∧ k < T.nds.length := fun k hk => ⟨(hfr k hk).1, (hfr k hk).2.1⟩
      obtain ⟨n1, T1, e1, e2, e3, e4, e5, e6, e7, e8, e9, e10⟩ := take_ok T (forkD d p n) hlen hfr2 hfn
      have hn1S : n1 ∉ n :: (S0 ++ S1) := fun hm => by
        rcases e4 with h | h
        · exact (hfr n1 h).2.2 hm
        · have : n1 < T.nds.length := by
            rcases List.mem_cons.1 hm with rfl | hm
            · exact hnl
            · rcases List.mem_append.1 hm with hm | hm
              · exact (h0.mem.2 _ hm).2
              · exact (h1.mem.2 _ hm).2
          omega
      have hS : ∀ k ∈ n :: (S0 ++ S1), k < T.nds.length ∧ k ∉ T.free := fun k hm => by
        refine ⟨?_, fun hf => (hfr k hf).2.2 hm⟩
        rcases List.mem_cons.1 hm with rfl | hm
        · exact hnl
        · rcases List.mem_append.1 hm with hm | hm
          · exact (h0.mem.2 _ hm).2
          · exact (h1.mem.2 _ hm).2
      have hold : TreeF (f + 1) T.nds six n (n :: (S0 ++ S1)) (nodeL d.p (vO d) L0 L1) := .inr ⟨hn, d, S0, S1, L0, L1, hd, h0, h1, h4, k0, k1, hnd, rfl, rfl⟩
      generalize hLL : nodeL d.p (vO d) L0 L1 = LL at *
      generalize hSS : n :: (S0 ++ S1) = SS at *
      have hLs : ∀ x ∈ LL, SideP six c (sideB d.p.addr c.len) x.1 := fun x hx => by
        rw [← hLL] at hx
        have hcx := node_cov h4 hx
        have hox := (node_order (v := vO d) h4).2 x hx
        by_cases hxd : x.1 = d.p
        · rw [hxd]; exact s0
        · obtain ⟨hsx, _⟩ := side_of h4.ok hox hcx (fun e => hxd e.symm)
          exact SideP.trans hck.len0.1 s0 hsx
      have hLo : InOrder cmpP (okP six) LL := hold.order
      have hD : forkD d p n = Nd.setKid ⟨c, 0, false, 0, 0⟩ (sideB d.p.addr c.len) n := by unfold forkD; rw [hcd]
      rw [hD] at e1 e5
      have hnS : n ∈ SS := by rw [← hSS]; simp
      by_cases hcp : c = p
      · -- it is the prefix itself
        subst hcp
        have g : ∀ k ∈ SS, (T1.nds.set n1 ⟨c, v, true, (Nd.setKid ⟨c, 0, false, 0, 0⟩ (sideB d.p.addr c.len) n).k0, (Nd.setKid ⟨c, 0, false, 0, 0⟩ (sideB d.p.addr c.len) n).k1⟩)[k]? = T.nds[k]? := fun k hk => by
          rw [List.getElem?_set_ne (fun e => hn1S (by rw [e]; exact hk))]
          exact e6 k (fun e => hn1S (by rw [← e]; exact hk)) (hS k hk).1
        have hkid : KidP (T1.nds.set n1 ⟨c, v, true, (Nd.setKid ⟨c, 0, false, 0, 0⟩ (sideB d.p.addr c.len) n).k0, (Nd.setKid ⟨c, 0, false, 0, 0⟩ (sideB d.p.addr c.len) n).k1⟩) six c (sideB d.p.addr c.len) n := .inr ⟨d, (g n hnS).trans hd, s0⟩
        have tr := hold.frame g
        have hput : putN (F + 1 + 1) T n c v = some (n1, { T1 with nds := T1.nds.set n1 ⟨c, v, true, (Nd.setKid ⟨c, 0, false, 0, 0⟩ (sideB d.p.addr c.len) n).k0, (Nd.setKid ⟨c, 0, false, 0, 0⟩ (sideB d.p.addr c.len) n).k1⟩ }) := by
          unfold putN
          rw [if_neg hn, hd]
          simp only
          rw [if_neg (by rw [he]; simp), if_neg (by rw [hc]; simp), hD, e1]
          simp only
          unfold putN
          rw [if_neg e2, e5]
          simp only
          rw [if_pos (by rw [setKid_len]; exact eqP_self _)]
        have hR : PutR six T n SS c { T1 with nds := T1.nds.set n1 ⟨c, v, true, (Nd.setKid ⟨c, 0, false, 0, 0⟩ (sideB d.p.addr c.len) n).k0, (Nd.setKid ⟨c, 0, false, 0, 0⟩ (sideB d.p.addr c.len) n).k1⟩ } n1 (n1 :: SS) := by
          refine ⟨e2, fun k hk hS hF => ?_, fun k hk => ?_, fun k hk => ⟨(e8 k hk).1, fun hm => ?_⟩, e9, by simpa using e7, ⟨_, by simp [e3]; rfl, fun q b _ h _ => h⟩, ⟨e10.six, e10.room, e10.count, e10.root⟩⟩
          · have hkn : k ≠ n1 := fun e => by
              rw [e] at hF hk
              rcases e4 with h | h
              · exact hF h
              · omega
            rw [List.getElem?_set_ne (fun e => hkn e.symm)]
            exact e6 k hkn hk
          · rcases List.mem_cons.1 hk with rfl | hk
            · exact .inr e4
            · exact .inl hk
          · rcases List.mem_cons.1 hm with rfl | hm
            · exact (e8 _ hk).2 rfl
            · exact (hS k hm).2 (e8 k hk).1
        refine ⟨n1, _, n1 :: SS, hput, ?_, hR⟩
        rw [put_front LL (fun x hx => (hLs x hx).behind hck) v]
        have hnn : (n1 :: SS).Nodup := List.nodup_cons.2 ⟨hn1S, hold.mem.1⟩
        cases hb : sideB d.p.addr c.len with
        | false =>
          rw [hb] at hkid tr hLs
          refine .inr ⟨e2, _, SS, [], LL, [], by simp [e3]; rfl, tr, TreeF.zero _, ⟨hck, hLo, InOrder.nil, hLs, fun _ h => by cases h⟩, (by show KidP _ six c false n; simpa only [hb] using hkid), .inl rfl, by simpa using hnn, by simp, by simp [nodeL, ownL, vO]⟩
        | true =>
          rw [hb] at hkid tr hLs
          refine .inr ⟨e2, _, [], SS, [], LL, by simp [e3]; rfl, TreeF.zero _, tr, ⟨hck, InOrder.nil, hLo, fun _ h => (by cases h), hLs⟩, .inl rfl, (by show KidP _ six c true n; simpa only [hb] using hkid), by simpa using hnn, by simp, by simp [nodeL, ownL, vO]⟩
      · -- it is another one
        obtain ⟨s1, _⟩ := side_of hck hp q3 hcp
        have hne : sideB p.addr c.len = !(sideB d.p.addr c.len) := by
          have b0 := s0.bit
          have b1 := s1.bit
          have l0 := s0.lt
          have l1 := s1.lt
          have lc := hck.len0
          have lp := hp.len0
          have hcl : comF d.p p 128 0 = c.len.toNat := by
            have : (comP d.p p : Int) = c.len := q4.symm
            unfold comP at this
            omega
          rw [hcl] at hstop
          have hbb : ¬ bitL d.p.addr c.len.toNat = bitL p.addr c.len.toNat := fun e => hstop ⟨by omega, by omega, by omega, e⟩
          rw [b0, b1] at hbb
          cases h1 : sideB d.p.addr c.len <;> cases h2 : sideB p.addr c.len <;> simp_all
        have hf1 : ∀ k ∈ T1.free, k ≠ 0 ∧ k < T1.nds.length := fun k hk => ⟨(hfr2 k (e8 k hk).1).1, Nat.lt_of_lt_of_le (hfr2 k (e8 k hk).1).2 e7⟩
        obtain ⟨r2, T2, m1, m2, R2, m3⟩ := put_leaf hp v T1 f (Nat.le_trans hlen e7) hf1 e9
        have hr2 : r2 ≠ n1 := fun e => by
          rcases R2.sub r2 (by simp) with h | h | h
          · cases h
          · exact (e8 r2 h).2 e
          · omega
        have hr2S : r2 ∉ SS := fun hm => by
          rcases R2.sub r2 (by simp) with h | h | h
          · cases h
          · exact (hS r2 hm).2 (e8 r2 h).1
          · have := (hS r2 hm).1; omega
        have hn1T2 : T2.nds[n1]? = some (Nd.setKid ⟨c, 0, false, 0, 0⟩ (sideB d.p.addr c.len) n) := by
          refine (R2.keep n1 e3 (fun h => by cases h) (fun h => (e8 n1 h).2 rfl)).trans e5
        have hn1l : n1 < T2.nds.length := (List.getElem?_eq_some_iff.1 hn1T2).1
        have g : ∀ k ∈ SS, (T2.nds.set n1 ((Nd.setKid ⟨c, 0, false, 0, 0⟩ (sideB d.p.addr c.len) n).setKid (sideB p.addr c.len) r2))[k]? = T.nds[k]? := fun k hk => by
          rw [List.getElem?_set_ne (fun e => hn1S (by rw [e]; exact hk)), R2.keep k (Nat.lt_of_lt_of_le (hS k hk).1 e7) (fun h => by cases h) (fun h => (hS k hk).2 (e8 k h).1)]
          exact e6 k (fun e => hn1S (by rw [← e]; exact hk)) (hS k hk).1
        have g2 : ∀ k ∈ [r2], (T2.nds.set n1 ((Nd.setKid ⟨c, 0, false, 0, 0⟩ (sideB d.p.addr c.len) n).setKid (sideB p.addr c.len) r2))[k]? = T2.nds[k]? := fun k hk => by
          rw [List.mem_singleton.1 hk]
          exact List.getElem?_set_ne (fun e => hr2 e.symm)
        have tr := hold.frame g
        have tr2 := m2.frame g2
        have hkid : KidP (T2.nds.set n1 ((Nd.setKid ⟨c, 0, false, 0, 0⟩ (sideB d.p.addr c.len) n).setKid (sideB p.addr c.len) r2)) six c (sideB d.p.addr c.len) n := .inr ⟨d, (g n hnS).trans hd, s0⟩
        have hkid2 : KidP (T2.nds.set n1 ((Nd.setKid ⟨c, 0, false, 0, 0⟩ (sideB d.p.addr c.len) n).setKid (sideB p.addr c.len) r2)) six c (sideB p.addr c.len) r2 := .inr ⟨_, (g2 r2 (by simp)).trans m3, s1⟩
        have hput : putN (F + 1 + 1) T n p v = some (n1, { T2 with nds := T2.nds.set n1 ((Nd.setKid ⟨c, 0, false, 0, 0⟩ (sideB d.p.addr c.len) n).setKid (sideB p.addr c.len) r2) }) := by
          unfold putN
          rw [if_neg hn, hd]
          simp only
          rw [if_neg (by rw [he]; simp), if_neg (by rw [hc]; simp), hD, e1]
          simp only
          obtain ⟨F', rfl⟩ : ∃ F', F = F' + 1 := ⟨F - 1, by omega⟩
          unfold putN
          rw [if_neg e2, e5]
          simp only
          rw [if_neg (by rw [setKid_len]; simp [eqP_no hcp]), if_pos (by rw [setKid_len]; exact q3), setKid_len]
          simp only
          rw [show (Nd.setKid ⟨c, 0, false, 0, 0⟩ (sideB d.p.addr c.len) n).kid (sideB p.addr c.len) = 0 by rw [hne]; cases sideB d.p.addr c.len <;> rfl]
          unfold putN
          rw [if_pos rfl, m1]
          simp only
          rw [hn1T2]
        have hnn : (n1 :: (SS ++ [r2])).Nodup := by
          refine List.nodup_cons.2 ⟨fun hm => ?_, List.nodup_append.2 ⟨hold.mem.1, by simp, fun a ha b hb e => ?_⟩⟩
          · rcases List.mem_append.1 hm with hm | hm
            · exact hn1S hm
            · exact hr2 (List.mem_singleton.1 hm).symm
          · rw [List.mem_singleton.1 hb] at e
            exact hr2S (by rw [← e]; exact ha)
        have hR : ∀ S', (∀ k, k ∈ S' ↔ k ∈ n1 :: (SS ++ [r2])) → PutR six T n SS p { T2 with nds := T2.nds.set n1 ((Nd.setKid ⟨c, 0, false, 0, 0⟩ (sideB d.p.addr c.len) n).setKid (sideB p.addr c.len) r2) } n1 S' := by
          intro S' hS'
          refine ⟨e2, fun k hk hS2 hF => ?_, fun k hk => ?_, fun k hk => ⟨(e8 k (R2.free k hk).1).1, fun hm => ?_⟩, R2.fnd, by simpa using Nat.le_trans e7 R2.len, ⟨_, by simp [hn1l]; rfl, fun q b hq0 hqp hqn => ?_⟩, ⟨(e10.trans R2.same).six, (e10.trans R2.same).room, (e10.trans R2.same).count, (e10.trans R2.same).root⟩⟩
          · have hkn : k ≠ n1 := fun e => by
              rw [e] at hF hk
              rcases e4 with h | h
              · exact hF h
              · omega
            rw [List.getElem?_set_ne (fun e => hkn e.symm), R2.keep k (Nat.lt_of_lt_of_le hk e7) (fun h => by cases h) (fun h => hF (e8 k h).1)]
            exact e6 k hkn hk
          · rcases List.mem_cons.1 ((hS' k).1 hk) with rfl | hk
            · exact .inr e4
            · rcases List.mem_append.1 hk with hk | hk
              · exact .inl hk
              · rw [List.mem_singleton.1 hk]
                rcases R2.sub r2 (by simp) with h | h | h
                · cases h
                · exact .inr (.inl (e8 r2 h).1)
                · exact .inr (.inr (Nat.le_trans e7 h))
          · rcases List.mem_cons.1 ((hS' k).1 hm) with rfl | hm
            · exact (e8 _ (R2.free _ hk).1).2 rfl
            · rcases List.mem_append.1 hm with hm | hm
              · exact (hS k hm).2 (e8 k (R2.free k hk).1).1
              · exact (R2.free k hk).2 hm
          · rw [setKid_len, setKid_len]
            have hqd := hqn hn d hd
            -- both lie below q on one side: so does what they have in common
            have hql : q.len < c.len := by
              rcases Int.lt_or_le q.len c.len with h | h
              · exact h
              · exfalso
                have lc := hck.len0
                have ld := hqd.lt
                have lp := hqp.lt
                have bd := hqd.bit
                have bp := hqp.bit
                have cd := ((cov_iff q d.p).1 hqd.cov).2.2
                have cp := ((cov_iff q p).1 hqp.cov).2.2
                have l1 := hp.len0
                have key : bitL d.p.addr c.len.toNat = bitL p.addr c.len.toNat := by
                  rcases Int.lt_or_le c.len q.len with h2 | h2
                  · rw [← cd c.len.toNat (by omega) (by omega), ← cp c.len.toNat (by omega) (by omega)]
                  · rw [show c.len.toNat = q.len.toNat by omega, bd, bp]
                rw [s0.bit, s1.bit, hne] at key
                cases h3 : sideB d.p.addr c.len <;> rw [h3] at key <;> simp at key
            have cd := ((cov_iff q d.p).1 hqd.cov)
            have cc := ((cov_iff c d.p).1 q2)
            have lc := hck.len0
            refine ⟨hck, (cov_iff q c).2 ⟨cd.1.trans cc.1.symm, by omega, fun i hi hl => by rw [cd.2.2 i hi hl, cc.2.2 i hi (by omega)]⟩, hql, ?_⟩
            rw [cc.2.2 q.len.toNat (by omega) (by omega)]
            exact hqd.bit
        cases hb : sideB d.p.addr c.len with
        | false =>
          rw [hb] at hne
          simp only [Bool.not_false] at hne
          refine ⟨n1, _, n1 :: (SS ++ [r2]), hput, ?_, hR _ (fun k => Iff.rfl)⟩
          rw [hb] at hkid hLs
          rw [hne] at hkid2 s1
          rw [put_back LL (fun x hx => ((hLs x hx).sides hck s1).1) v]
          refine .inr ⟨e2, (Nd.setKid ⟨c, 0, false, 0, 0⟩ false n).setKid true r2, SS, [r2], LL, [(p, v)], by simp [hn1l, hb, hne], tr, tr2.mono (by omega), ⟨hck, hLo, InOrder.cons hp (fun _ h => by cases h) InOrder.nil, hLs, fun x hx => by rw [List.mem_singleton.1 hx]; exact s1⟩, (by show KidP _ six c false n; simpa only [hb, hne] using hkid), (by show KidP _ six c true r2; simpa only [hb, hne] using hkid2), hnn, rfl, rfl⟩
        | true =>
          rw [hb] at hne
          simp only [Bool.not_true] at hne
          refine ⟨n1, _, n1 :: ([r2] ++ SS), hput, ?_, hR _ (fun k => by simp only [List.mem_cons, List.mem_append]; constructor <;> (rintro (h | h | h) <;> simp_all))⟩
          rw [hb] at hkid hLs
          rw [hne] at hkid2 s1
          rw [put_front LL (fun x hx => ((s1.sides hck (hLs x hx)).2)) v]
          refine .inr ⟨e2, (Nd.setKid ⟨c, 0, false, 0, 0⟩ true n).setKid false r2, [r2], SS, [(p, v)], LL, by simp [hn1l, hb, hne], tr2.mono (by omega), tr, ⟨hck, InOrder.cons hp (fun _ h => by cases h) InOrder.nil, hLo, fun x hx => by rw [List.mem_singleton.1 hx]; exact s1, hLs⟩, (by show KidP _ six c false r2; simpa only [hb, hne] using hkid2), (by show KidP _ six c true n; simpa only [hb, hne] using hkid), ?_, rfl, rfl⟩
          refine List.nodup_cons.2 ⟨fun hm => (List.nodup_cons.1 hnn).1 (by simp at hm ⊢; rcases hm with h | h <;> simp [h]), ?_⟩
          have := (List.nodup_cons.1 hnn).2
          rw [List.nodup_append] at this ⊢
          exact ⟨this.2.1, this.1, fun a ha b hb e => this.2.2 b hb a ha e.symm⟩
end Go.Proofs.Ytgimcapcnidjjaa
namespace Go.Proofs.Ytgimcapcnidjjaa
open Go

/-- A node is kept, or gives its place to its one kid. -/
theorem fin_tree {f : Nat} {six : Bool} (T : Tb) (n : Nat) (D : Nd) (S0 S1 : List Nat) (L0 L1 : List (Pfx × Int)) (hn : n ≠ 0) (hnl : n < T.nds.length) (h0 : TreeF f T.nds six D.k0 S0 L0) (h1 : TreeF f T.nds six D.k1 S1 L1) (h4 : Node9 six D.p L0 L1)
    (k0 : KidP T.nds six D.p false D.k0) (k1 : KidP T.nds six D.p true D.k1) (hnd : (n :: (S0 ++ S1)).Nodup) (hfr : ∀ k ∈ T.free, k ≠ 0 ∧ k < T.nds.length ∧ k ∉ n :: (S0 ++ S1)) (hfn : T.free.Nodup) :
    ∃ r T' S', finR T n D = some (r, T') ∧ TreeF (f + 1) T'.nds six r S' (nodeL D.p (vO D) L0 L1) ∧ (∀ k ∈ S', k ∈ n :: (S0 ++ S1)) ∧ (∀ k, k ≠ n → T'.nds[k]? = T.nds[k]?) ∧ (∀ k ∈ T'.free, (k ∈ T.free ∨ k = n) ∧ k ∉ S') ∧ T'.free.Nodup ∧ T'.nds.length = T.nds.length ∧
      (r = 0 ∨ ∃ e, T'.nds[r]? = some e ∧ (e.p = D.p ∨ ∃ c, SideP six D.p c e.p)) ∧ Same4 T T' := by
  have nd_n := (List.nodup_cons.1 hnd).1
  have g : ∀ (E : Nd) (k : Nat), k ≠ n → (T.nds.set n E)[k]? = T.nds[k]? := fun E k hk => List.getElem?_set_ne (fun e => hk e.symm)
  have gs : ∀ (E : Nd) (k : Nat), k ∈ S0 ++ S1 → (T.nds.set n E)[k]? = T.nds[k]? := fun E k hk => g E k (fun e => nd_n (by rw [← e]; exact hk))
  have kid : ∀ (E : Nd) (b : Bool) (k : Nat) (S : List Nat) (L : List (Pfx × Int)), TreeF f T.nds six k S L → (∀ j ∈ S, j ∈ S0 ++ S1) → KidP T.nds six D.p b k → KidP (T.nds.set n E) six D.p b k := by
    intro E b k S L hT hS hk
    rcases hk with k | ⟨e2, q1, q2⟩
    · exact .inl k
    · by_cases hz : k = 0
      · exact .inl hz
      · exact .inr ⟨e2, (gs E _ (hS _ (hT.root hz))).trans q1, q2⟩
  unfold finR
  rw [if_pos hnl]
  by_cases hk : D.held = true ∨ (D.k0 ≠ 0 ∧ D.k1 ≠ 0)
  · rw [if_pos hk]
    refine ⟨n, { T with nds := T.nds.set n D }, n :: (S0 ++ S1), rfl, .inr ⟨hn, D, S0, S1, L0, L1, by simp [hnl], h0.frame (fun k h => gs D k (by simp [h])), h1.frame (fun k h => gs D k (by simp [h])), h4, kid D false _ S0 L0 h0 (fun j hj => by simp [hj]) k0, kid D true _ S1 L1 h1 (fun j hj => by simp [hj]) k1, hnd, rfl, rfl⟩, fun k h => h, fun k h => g D k h, fun k h => ⟨.inl h, (hfr k h).2.2⟩, hfn, by simp, .inr ⟨D, by simp [hnl], .inl rfl⟩, ⟨rfl, rfl, rfl, rfl⟩⟩
  · rw [if_neg hk]
    have hheld : D.held = false := by
      cases h : D.held
      · rfl
      · exact absurd (.inl h) hk
    have hvo : vO D = none := by unfold vO; rw [hheld]; rfl
    rw [hvo]
    have hfree : ∀ S' : List Nat, (∀ k ∈ S', k ∈ S0 ++ S1) → ∀ k ∈ (giveN T n).free, (k ∈ T.free ∨ k = n) ∧ k ∉ S' := by
      intro S' hS' k hk
      rcases List.mem_append.1 (show k ∈ T.free ++ [n] from hk) with h | h
      · exact ⟨.inl h, fun hm => (hfr k h).2.2 (List.mem_cons.2 (.inr (hS' k hm)))⟩
      · rw [List.mem_singleton.1 h]
        exact ⟨.inr rfl, fun hm => nd_n (hS' n hm)⟩
    have hfn2 : (giveN T n).free.Nodup := List.nodup_append.2 ⟨hfn, by simp, fun a ha b hb e => by rw [List.mem_singleton.1 hb] at e; exact (hfr a ha).2.2 (by rw [e]; simp)⟩
    by_cases z0 : D.k0 = 0
    · rw [z0] at h0
      obtain ⟨rfl, rfl⟩ := h0.of_zero
      have hmax : max D.k0 D.k1 = D.k1 := by rw [z0]; exact Nat.max_eq_right (Nat.zero_le _)
      rw [hmax]
      refine ⟨D.k1, giveN T n, S1, rfl, ?_, fun k h => by simp [h], fun k h => g nd0 k h, hfree S1 (fun k h => by simpa using h), hfn2, by simp [giveN], ?_, ⟨rfl, rfl, rfl, rfl⟩⟩
      · exact (h1.frame (fun k h => gs nd0 k (by simpa using h))).mono (by omega)
      · by_cases z1 : D.k1 = 0
        · exact .inl z1
        · rcases k1 with k | ⟨e2, q1, q2⟩
          · exact absurd k z1
          · exact .inr ⟨e2, (gs nd0 _ (by simpa using h1.root z1)).trans q1, .inr ⟨true, q2⟩⟩
    · have z1 : D.k1 = 0 := by
        rcases Nat.eq_zero_or_pos D.k1 with h | h
        · exact h
        · exact absurd (.inr ⟨z0, by omega⟩) hk
      rw [z1] at h1
      obtain ⟨rfl, rfl⟩ := h1.of_zero
      have hmax : max D.k0 D.k1 = D.k0 := by rw [z1]; exact Nat.max_eq_left (Nat.zero_le _)
      rw [hmax]
      refine ⟨D.k0, giveN T n, S0, rfl, ?_, fun k h => by simp [h], fun k h => g nd0 k h, hfree S0 (fun k h => by simpa using h), hfn2, by simp [giveN], ?_, ⟨rfl, rfl, rfl, rfl⟩⟩
      · have e : nodeL D.p none L0 [] = L0 := by unfold nodeL ownL; simp
        rw [e]
        exact (h0.frame (fun k h => gs nd0 k (by simpa using h))).mono (by omega)
      · rcases k0 with k | ⟨e2, q1, q2⟩
        · exact absurd k z0
        · exact .inr ⟨e2, (gs nd0 _ (by simpa using h0.root z0)).trans q1, .inr ⟨false, q2⟩⟩
structure RemR (six : Bool) (T : Tb) (n : Nat) (S : List Nat) (T' : Tb) (r : Nat) (S' : List Nat) : Prop where
  keep : ∀ k, k ∉ S → T'.nds[k]? = T.nds[k]?
  sub : ∀ k ∈ S', k ∈ S
  free : ∀ k ∈ T'.free, (k ∈ T.free ∨ k ∈ S) ∧ k ∉ S'
  fnd : T'.free.Nodup
  len : T'.nds.length = T.nds.length
  top : r = 0 ∨ ∃ e, T'.nds[r]? = some e ∧ ∀ q b, 0 ≤ q.len → (∀ e0, T.nds[n]? = some e0 → SideP six q b e0.p) → SideP six q b e.p
  same : Same4 T T'
set_option maxHeartbeats 1000000 in
theorem rem_tree {six : Bool} {p : Pfx} (hp : okP six p) : ∀ (f F : Nat) (T : Tb) (n : Nat) (S : List Nat) (L : List (Pfx × Int)), TreeF f T.nds six n S L → (∀ k ∈ T.free, k ≠ 0 ∧ k < T.nds.length ∧ k ∉ S) → T.free.Nodup → getT cmpP p L ≠ none → f ≤ F →
    ∃ r T' S', remN F T n p = some (r, T') ∧ TreeF f T'.nds six r S' (delT cmpP p L) ∧ RemR six T n S T' r S'
  | 0, F, T, n, S, L, h, _, _, hg, _ => by
    obtain ⟨rfl, rfl, rfl⟩ := h
    exact absurd rfl hg
  | f + 1, 0, _, _, _, _, _, _, _, _, h => by omega
  | f + 1, F + 1, T, n, S, L, h, hfr, hfn, hg, hF => by
    rcases h with ⟨rfl, rfl, rfl⟩ | ⟨hn, d, S0, S1, L0, L1, hd, h0, h1, h4, k0, k1, hnd, rfl, rfl⟩
    · exact absurd rfl hg
    have hnl : n < T.nds.length := (List.getElem?_eq_some_iff.1 hd).1
    have nd_n := (List.nodup_cons.1 hnd).1
    have hdis : ∀ k, k ∈ S0 → k ∈ S1 → False := fun k a b => (List.nodup_append.1 (List.nodup_cons.1 hnd).2).2.2 k a k b rfl
    by_cases hq : d.p = p
    · subst hq
      obtain ⟨r, T', S', f1, f2, f3, f4, f5, f6, f7, f8, f9⟩ := fin_tree (f := f) T n { d with v := 0, held := false } S0 S1 L0 L1 hn hnl h0 h1 h4 k0 k1 hnd hfr hfn
      refine ⟨r, T', S', ?_, ?_, fun k hk => f4 k (fun e => hk (by rw [e]; simp)), f3, fun k hk => ⟨?_, (f5 k hk).2⟩, f6, f7, ?_, f9⟩
      · unfold remN
        rw [hd]
        simp only
        rw [if_pos (eqP_self _)]
        exact f1
      · rw [del_self h4]
        exact f2
      · rcases (f5 k hk).1 with h | rfl
        · exact .inl h
        · exact .inr (by simp)
      · rcases f8 with e | ⟨e, q1, q2⟩
        · exact .inl e
        · refine .inr ⟨e, q1, fun q b hq0 hqn => ?_⟩
          have hqd := hqn d hd
          rcases q2 with q2 | ⟨c, q2⟩
          · rw [q2]; exact hqd
          · exact SideP.trans hq0 hqd q2
    have he : eqP d.p p = false := eqP_no hq
    have hc : covP d.p p = true := by
      cases h : covP d.p p
      · exact absurd (get_out h4 hp h) hg
      · rfl
    obtain ⟨hs, _⟩ := side_of h4.ok hp hc hq
    cases hb : sideB p.addr d.p.len with
    | false =>
      rw [hb] at hs
      have hg2 : getT cmpP p L0 ≠ none := by rw [get_left h4 hs] at hg; exact hg
      obtain ⟨r1, T1, S1', e1, t1, R⟩ := rem_tree hp f F T d.k0 S0 L0 h0 (fun k hk => ⟨(hfr k hk).1, (hfr k hk).2.1, fun hm => (hfr k hk).2.2 (by simp [hm])⟩) hfn hg2 (by omega)
      have hnS : n ∉ S0 := fun hm => nd_n (by simp [hm])
      have hn1 : n < T1.nds.length := by rw [R.len]; exact hnl
      have hoth : ∀ k ∈ S1, k ∉ S1' := fun k hk hm => hdis k (R.sub k hm) hk
      have hnS' : n ∉ S1' := fun hm => hnS (R.sub n hm)
      have gO : ∀ k ∈ S1, T1.nds[k]? = T.nds[k]? := fun k hk => R.keep k (fun hm => hdis k hm hk)
      have hTO := h1.frame gO
      have hND : (n :: (S1' ++ S1)).Nodup := by
        refine List.nodup_cons.2 ⟨fun hm => ?_, List.nodup_append.2 ⟨t1.mem.1, h1.mem.1, fun a ha b hb2 e => by subst e; exact hoth a hb2 ha⟩⟩
        rcases List.mem_append.1 hm with hm | hm
        · exact hnS' hm
        · exact nd_n (by simp [hm])
      have hKN : KidP T1.nds six d.p false r1 := by
        rcases R.top with e | ⟨e, he1, he2⟩
        · exact .inl e
        · refine .inr ⟨e, he1, he2 d.p false h4.ok.len0.1 (fun e0 he0 => ?_)⟩
          rcases k0 with k | ⟨e2, q1, q2⟩
          · exfalso
            rw [k] at h0
            have := h0.of_zero
            rw [this.2] at hg2
            exact hg2 rfl
          · rw [he0] at q1; cases q1; exact q2
      have hKO : KidP T1.nds six d.p true d.k1 := by
        rcases k1 with k | ⟨e2, q1, q2⟩
        · exact .inl k
        · by_cases hz : d.k1 = 0
          · exact .inl hz
          · exact .inr ⟨e2, (gO _ (h1.root hz)).trans q1, q2⟩
      have hNo : Node9 six d.p (delT cmpP p L0) L1 := ⟨h4.ok, del_order p L0 h4.ordL, h4.ordR, fun x hx => h4.left x (del_mem p L0 x hx), h4.right⟩
      have hfr1 : ∀ k ∈ T1.free, k ≠ 0 ∧ k < T1.nds.length ∧ k ∉ n :: (S1' ++ S1) := fun k hk => by
        obtain ⟨h5, h6⟩ := R.free k hk
        have hk0 : k ≠ 0 ∧ k < T.nds.length := by
          rcases h5 with h5 | h5
          · exact ⟨(hfr k h5).1, (hfr k h5).2.1⟩
          · exact h0.mem.2 k h5
        refine ⟨hk0.1, by rw [R.len]; exact hk0.2, fun hm => ?_⟩
        have hin : k ∈ n :: S1 := by
          rcases List.mem_cons.1 hm with rfl | hm
          · simp
          · rcases List.mem_append.1 hm with hm | hm
            · exact absurd hm h6
            · simp [hm]
        rcases h5 with h5 | h5
        · refine (hfr k h5).2.2 ?_
          rcases List.mem_cons.1 hin with rfl | hin
          · simp
          · simp [hin]
        · rcases List.mem_cons.1 hin with rfl | hin
          · exact hnS h5
          · exact hdis k h5 hin
      obtain ⟨r, T', S', f1, f2, f3, f4, f5, f6, f7, f8, f9⟩ := fin_tree (f := f) T1 n (d.setKid false r1) S1' S1 (delT cmpP p L0) L1 hn hn1 t1 hTO (by rw [setKid_len]; exact hNo) (by rw [setKid_len]; exact hKN) (by rw [setKid_len]; exact hKO) hND hfr1 R.fnd
      refine ⟨r, T', S', ?_, ?_, fun k hk => ?_, fun k hk => ?_, fun k hk => ⟨?_, (f5 k hk).2⟩, f6, f7.trans R.len, ?_, R.same.trans f9⟩
      · unfold remN
        rw [hd]
        simp only
        rw [if_neg (by rw [he]; simp), hb, show d.kid false = d.k0 from rfl, e1]
        exact f1
      · rw [setKid_len] at f2
        rw [del_left h4 hs]
        exact f2
      · rw [f4 k (fun e => hk (by rw [e]; simp))]
        exact R.keep k (fun hm => hk (by simp [hm]))
      · rcases List.mem_cons.1 (f3 k hk) with rfl | h
        · simp
        · rcases List.mem_append.1 h with h | h
          · simp [R.sub k h]
          · simp [h]
      · rcases (f5 k hk).1 with h | rfl
        · rcases (R.free k h).1 with h | h
          · exact .inl h
          · exact .inr (by simp [h])
        · exact .inr (by simp)
      · rcases f8 with e | ⟨e, q1, q2⟩
        · exact .inl e
        · refine .inr ⟨e, q1, fun q b hq0 hqn => ?_⟩
          have hqd := hqn d hd
          rw [setKid_len] at q2
          rcases q2 with q2 | ⟨c, q2⟩
          · rw [q2]; exact hqd
          · exact SideP.trans hq0 hqd q2
    | true =>
      rw [hb] at hs
      have hg2 : getT cmpP p L1 ≠ none := by rw [get_right h4 hs] at hg; exact hg
      obtain ⟨r1, T1, S1', e1, t1, R⟩ := rem_tree hp f F T d.k1 S1 L1 h1 (fun k hk => ⟨(hfr k hk).1, (hfr k hk).2.1, fun hm => (hfr k hk).2.2 (by simp [hm])⟩) hfn hg2 (by omega)
      have hnS : n ∉ S1 := fun hm => nd_n (by simp [hm])
      have hn1 : n < T1.nds.length := by rw [R.len]; exact hnl
      have hoth : ∀ k ∈ S0, k ∉ S1' := fun k hk hm => hdis k hk (R.sub k hm)
      have hnS' : n ∉ S1' := fun hm => hnS (R.sub n hm)
      have gO : ∀ k ∈ S0, T1.nds[k]? = T.nds[k]? := fun k hk => R.keep k (fun hm => hdis k hk hm)
      have hTO := h0.frame gO
      have hND : (n :: (S0 ++ S1')).Nodup := by
        refine List.nodup_cons.2 ⟨fun hm => ?_, List.nodup_append.2 ⟨h0.mem.1, t1.mem.1, fun a ha b hb2 e => by subst e; exact hoth a ha hb2⟩⟩
        rcases List.mem_append.1 hm with hm | hm
        · exact nd_n (by simp [hm])
        · exact hnS' hm
      have hKN : KidP T1.nds six d.p true r1 := by
        rcases R.top with e | ⟨e, he1, he2⟩
        · exact .inl e
        · refine .inr ⟨e, he1, he2 d.p true h4.ok.len0.1 (fun e0 he0 => ?_)⟩
          rcases k1 with k | ⟨e2, q1, q2⟩
          · exfalso
            rw [k] at h1
            have := h1.of_zero
            rw [this.2] at hg2
            exact hg2 rfl
          · rw [he0] at q1; cases q1; exact q2
      have hKO : KidP T1.nds six d.p false d.k0 := by
        rcases k0 with k | ⟨e2, q1, q2⟩
        · exact .inl k
        · by_cases hz : d.k0 = 0
          · exact .inl hz
          · exact .inr ⟨e2, (gO _ (h0.root hz)).trans q1, q2⟩
      have hNo : Node9 six d.p L0 (delT cmpP p L1) := ⟨h4.ok, h4.ordL, del_order p L1 h4.ordR, h4.left, fun x hx => h4.right x (del_mem p L1 x hx)⟩
      have hfr1 : ∀ k ∈ T1.free, k ≠ 0 ∧ k < T1.nds.length ∧ k ∉ n :: (S0 ++ S1') := fun k hk => by
        obtain ⟨h5, h6⟩ := R.free k hk
        have hk0 : k ≠ 0 ∧ k < T.nds.length := by
          rcases h5 with h5 | h5
          · exact ⟨(hfr k h5).1, (hfr k h5).2.1⟩
          · exact h1.mem.2 k h5
        refine ⟨hk0.1, by rw [R.len]; exact hk0.2, fun hm => ?_⟩
        have hin : k ∈ n :: S0 := by
          rcases List.mem_cons.1 hm with rfl | hm
          · simp
          · rcases List.mem_append.1 hm with hm | hm
            · simp [hm]
            · exact absurd hm h6
        rcases h5 with h5 | h5
        · refine (hfr k h5).2.2 ?_
          rcases List.mem_cons.1 hin with rfl | hin
          · simp
          · simp [hin]
        · rcases List.mem_cons.1 hin with rfl | hin
          · exact hnS h5
          · exact hdis k hin h5
      obtain ⟨r, T', S', f1, f2, f3, f4, f5, f6, f7, f8, f9⟩ := fin_tree (f := f) T1 n (d.setKid true r1) S0 S1' L0 (delT cmpP p L1) hn hn1 hTO t1 (by rw [setKid_len]; exact hNo) (by rw [setKid_len]; exact hKO) (by rw [setKid_len]; exact hKN) hND hfr1 R.fnd
      refine ⟨r, T', S', ?_, ?_, fun k hk => ?_, fun k hk => ?_, fun k hk => ⟨?_, (f5 k hk).2⟩, f6, f7.trans R.len, ?_, R.same.trans f9⟩
      · unfold remN
        rw [hd]
        simp only
        rw [if_neg (by rw [he]; simp), hb, show d.kid true = d.k1 from rfl, e1]
        exact f1
      · rw [setKid_len] at f2
        rw [del_right h4 hs]
        exact f2
      · rw [f4 k (fun e => hk (by rw [e]; simp))]
        exact R.keep k (fun hm => hk (by simp [hm]))
      · rcases List.mem_cons.1 (f3 k hk) with rfl | h
        · simp
        · rcases List.mem_append.1 h with h | h
          · simp [h]
          · simp [R.sub k h]
      · rcases (f5 k hk).1 with h | rfl
        · rcases (R.free k h).1 with h | h
          · exact .inl h
          · exact .inr (by simp [h])
        · exact .inr (by simp)
      · rcases f8 with e | ⟨e, q1, q2⟩
        · exact .inl e
        · refine .inr ⟨e, q1, fun q b hq0 hqn => ?_⟩
          have hqd := hqn d hd
          rw [setKid_len] at q2
          rcases q2 with q2 | ⟨c, q2⟩
          · rw [q2]; exact hqd
          · exact SideP.trans hq0 hqd q2
end Go.Proofs.Ytgimcapcnidjjaa

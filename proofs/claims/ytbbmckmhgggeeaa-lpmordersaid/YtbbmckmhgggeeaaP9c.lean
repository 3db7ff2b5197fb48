/- A prefix is taken out of a tree of prefixes: what it holds then. Of no memory. -/
import Derived.Test.YtbbmckmhgggeeaaP9b
import Derived.Test.YtbbmckmhgggeeaaT9i
namespace Go.Proofs.Ytbbmckmhgggeeaa
open Go

/-- A node is kept, or gives its place to its one kid. -/
theorem fin_tree {f : Nat} {six : Bool} (T : Tb) (n : Nat) (D : Nd) (S0 S1 : List Nat) (L0 L1 : List (Pfx × Int)) (hn : n ≠ 0) (hnl : n < T.nds.length) (h0 : TreeF f T.nds six D.k0 S0 L0) (h1 : TreeF f T.nds six D.k1 S1 L1) (h4 : Node9 six D.p L0 L1)
    (k0 : KidP T.nds six D.p false D.k0) (k1 : KidP T.nds six D.p true D.k1) (hnd : (n :: (S0 ++ S1)).Nodup) (hfr : ∀ k ∈ T.free, k ≠ 0 ∧ k < T.nds.length ∧ k ∉ n :: (S0 ++ S1)) (hfn : T.free.Nodup) :
    ∃ r T' S', finR T n D = some (r, T') ∧ TreeF (f + 1) T'.nds six r S' (nodeL D.p (vO D) L0 L1) ∧ (∀ k ∈ S', k ∈ n :: (S0 ++ S1)) ∧ (∀ k, k ≠ n → T'.nds[k]? = T.nds[k]?) ∧ (∀ k ∈ T'.free, (k ∈ T.free ∨ k = n) ∧ k ∉ S') ∧ T'.free.Nodup ∧ T'.nds.length = T.nds.length ∧
      (r = 0 ∨ ∃ e, T'.nds[r]? = some e ∧ (e.p = D.p ∨ ∃ c, SideP six D.p c e.p)) ∧ Same4 T T' := by
  have nd_n := (List.nodup_cons.1 hnd).1
  have g : ∀ (E : Nd) (k : Nat), k ≠ n → (T.nds.set n E)[k]? = T.nds[k]? := fun E k hk => List.getElem?_set_ne (fun e => hk e.symm)
  have gs : ∀ (E : Nd) (k : Nat), k ∈ S0 ++ S1 → (T.nds.set n E)[k]? = T.nds[k]? := fun E k hk => g E k (fun e => nd_n (by rw [← e]; exact hk))
  have kid : ∀ (E : Nd) (b : Bool) (k : Nat) (S : List Nat) (L : List (Pfx × Int)), TreeF f T.nds six k S L → (∀ j ∈ S, j ∈ S0 ++ S1) → KidP T.nds six D.p b k → KidP (T.nds.set n E) six D.p b k := by
    intro E b k S L hT hS hk
    rcases hk with k | ⟨e2, q1, q2⟩
    · exact .inl k
    · by_cases hz : k = 0
      · exact .inl hz
      · exact .inr ⟨e2, (gs E _ (hS _ (hT.root hz))).trans q1, q2⟩
  unfold finR
  rw [if_pos hnl]
  by_cases hk : D.held = true ∨ (D.k0 ≠ 0 ∧ D.k1 ≠ 0)
  · rw [if_pos hk]
    refine ⟨n, { T with nds := T.nds.set n D }, n :: (S0 ++ S1), rfl, .inr ⟨hn, D, S0, S1, L0, L1, by simp [hnl], h0.frame (fun k h => gs D k (by simp [h])), h1.frame (fun k h => gs D k (by simp [h])), h4, kid D false _ S0 L0 h0 (fun j hj => by simp [hj]) k0, kid D true _ S1 L1 h1 (fun j hj => by simp [hj]) k1, hnd, rfl, rfl⟩, fun k h => h, fun k h => g D k h, fun k h => ⟨.inl h, (hfr k h).2.2⟩, hfn, by simp, .inr ⟨D, by simp [hnl], .inl rfl⟩, ⟨rfl, rfl, rfl, rfl⟩⟩
  · rw [if_neg hk]
    have hheld : D.held = false := by
      cases h : D.held
      · rfl
      · exact absurd (.inl h) hk
    have hvo : vO D = none := by unfold vO; rw [hheld]; rfl
    rw [hvo]
    have hfree : ∀ S' : List Nat, (∀ k ∈ S', k ∈ S0 ++ S1) → ∀ k ∈ (giveN T n).free, (k ∈ T.free ∨ k = n) ∧ k ∉ S' := by
      intro S' hS' k hk
      rcases List.mem_append.1 (show k ∈ T.free ++ [n] from hk) with h | h
      · exact ⟨.inl h, fun hm => (hfr k h).2.2 (List.mem_cons.2 (.inr (hS' k hm)))⟩
      · rw [List.mem_singleton.1 h]
        exact ⟨.inr rfl, fun hm => nd_n (hS' n hm)⟩
    have hfn2 : (giveN T n).free.Nodup := List.nodup_append.2 ⟨hfn, by simp, fun a ha b hb e => by rw [List.mem_singleton.1 hb] at e; exact (hfr a ha).2.2 (by rw [e]; simp)⟩
    by_cases z0 : D.k0 = 0
    · rw [z0] at h0
      obtain ⟨rfl, rfl⟩ := h0.of_zero
      have hmax : max D.k0 D.k1 = D.k1 := by rw [z0]; exact Nat.max_eq_right (Nat.zero_le _)
      rw [hmax]
      refine ⟨D.k1, giveN T n, S1, rfl, ?_, fun k h => by simp [h], fun k h => g nd0 k h, hfree S1 (fun k h => by simpa using h), hfn2, by simp [giveN], ?_, ⟨rfl, rfl, rfl, rfl⟩⟩
      · exact (h1.frame (fun k h => gs nd0 k (by simpa using h))).mono (by omega)
      · by_cases z1 : D.k1 = 0
        · exact .inl z1
        · rcases k1 with k | ⟨e2, q1, q2⟩
          · exact absurd k z1
          · exact .inr ⟨e2, (gs nd0 _ (by simpa using h1.root z1)).trans q1, .inr ⟨true, q2⟩⟩
    · have z1 : D.k1 = 0 := by
        rcases Nat.eq_zero_or_pos D.k1 with h | h
        · exact h
        · exact absurd (.inr ⟨z0, by omega⟩) hk
      rw [z1] at h1
      obtain ⟨rfl, rfl⟩ := h1.of_zero
      have hmax : max D.k0 D.k1 = D.k0 := by rw [z1]; exact Nat.max_eq_left (Nat.zero_le _)
      rw [hmax]
      refine ⟨D.k0, giveN T n, S0, rfl, ?_, fun k h => by simp [h], fun k h => g nd0 k h, hfree S0 (fun k h => by simpa using h), hfn2, by simp [giveN], ?_, ⟨rfl, rfl, rfl, rfl⟩⟩
      · have e : nodeL D.p none L0 [] = L0 := by unfold nodeL ownL; simp
        rw [e]
        exact (h0.frame (fun k h => gs nd0 k (by simpa using h))).mono (by omega)
      · rcases k0 with k | ⟨e2, q1, q2⟩
        · exact absurd k z0
        · exact .inr ⟨e2, (gs nd0 _ (by simpa using h0.root z0)).trans q1, .inr ⟨false, q2⟩⟩
structure RemR (six : Bool) (T : Tb) (n : Nat) (S : List Nat) (T' : Tb) (r : Nat) (S' : List Nat) : Prop where
  keep : ∀ k, k ∉ S → T'.nds[k]? = T.nds[k]?
  sub : ∀ k ∈ S', k ∈ S
  free : ∀ k ∈ T'.free, (k ∈ T.free ∨ k ∈ S) ∧ k ∉ S'
  fnd : T'.free.Nodup
  len : T'.nds.length = T.nds.length
  top : r = 0 ∨ ∃ e, T'.nds[r]? = some e ∧ ∀ q b, 0 ≤ q.len → (∀ e0, T.nds[n]? = some e0 → SideP six q b e0.p) → SideP six q b e.p
  same : Same4 T T'
set_option maxHeartbeats 1000000 in
theorem rem_tree {six : Bool} {p : Pfx} (hp : okP six p) : ∀ (f F : Nat) (T : Tb) (n : Nat) (S : List Nat) (L : List (Pfx × Int)), TreeF f T.nds six n S L → (∀ k ∈ T.free, k ≠ 0 ∧ k < T.nds.length ∧ k ∉ S) → T.free.Nodup → getT cmpP p L ≠ none → f ≤ F →
    ∃ r T' S', remN F T n p = some (r, T') ∧ TreeF f T'.nds six r S' (delT cmpP p L) ∧ RemR six T n S T' r S'
  | 0, F, T, n, S, L, h, _, _, hg, _ => by
    obtain ⟨rfl, rfl, rfl⟩ := h
    exact absurd rfl hg
  | f + 1, 0, _, _, _, _, _, _, _, _, h => by omega
  | f + 1, F + 1, T, n, S, L, h, hfr, hfn, hg, hF => by
    rcases h with ⟨rfl, rfl, rfl⟩ | ⟨hn, d, S0, S1, L0, L1, hd, h0, h1, h4, k0, k1, hnd, rfl, rfl⟩
    · exact absurd rfl hg
    have hnl : n < T.nds.length := (List.getElem?_eq_some_iff.1 hd).1
    have nd_n := (List.nodup_cons.1 hnd).1
    have hdis : ∀ k, k ∈ S0 → k ∈ S1 → False := fun k a b => (List.nodup_append.1 (List.nodup_cons.1 hnd).2).2.2 k a k b rfl
    by_cases hq : d.p = p
    · subst hq
      obtain ⟨r, T', S', f1, f2, f3, f4, f5, f6, f7, f8, f9⟩ := fin_tree (f := f) T n { d with v := 0, held := false } S0 S1 L0 L1 hn hnl h0 h1 h4 k0 k1 hnd hfr hfn
      refine ⟨r, T', S', ?_, ?_, fun k hk => f4 k (fun e => hk (by rw [e]; simp)), f3, fun k hk => ⟨?_, (f5 k hk).2⟩, f6, f7, ?_, f9⟩
      · unfold remN
        rw [hd]
        simp only
        rw [if_pos (eqP_self _)]
        exact f1
      · rw [del_self h4]
        exact f2
      · rcases (f5 k hk).1 with h | rfl
        · exact .inl h
        · exact .inr (by simp)
      · rcases f8 with e | ⟨e, q1, q2⟩
        · exact .inl e
        · refine .inr ⟨e, q1, fun q b hq0 hqn => ?_⟩
          have hqd := hqn d hd
          rcases q2 with q2 | ⟨c, q2⟩
          · rw [q2]; exact hqd
          · exact SideP.trans hq0 hqd q2
    have he : eqP d.p p = false := eqP_no hq
    have hc : covP d.p p = true := by
      cases h : covP d.p p
      · exact absurd (get_out h4 hp h) hg
      · rfl
    obtain ⟨hs, _⟩ := side_of h4.ok hp hc hq
    cases hb : sideB p.addr d.p.len with
    | false =>
      rw [hb] at hs
      have hg2 : getT cmpP p L0 ≠ none := by rw [get_left h4 hs] at hg; exact hg
      obtain ⟨r1, T1, S1', e1, t1, R⟩ := rem_tree hp f F T d.k0 S0 L0 h0 (fun k hk => ⟨(hfr k hk).1, (hfr k hk).2.1, fun hm => (hfr k hk).2.2 (by simp [hm])⟩) hfn hg2 (by omega)
      have hnS : n ∉ S0 := fun hm => nd_n (by simp [hm])
      have hn1 : n < T1.nds.length := by rw [R.len]; exact hnl
      have hoth : ∀ k ∈ S1, k ∉ S1' := fun k hk hm => hdis k (R.sub k hm) hk
      have hnS' : n ∉ S1' := fun hm => hnS (R.sub n hm)
      have gO : ∀ k ∈ S1, T1.nds[k]? = T.nds[k]? := fun k hk => R.keep k (fun hm => hdis k hm hk)
      have hTO := h1.frame gO
      have hND : (n :: (S1' ++ S1)).Nodup := by
        refine List.nodup_cons.2 ⟨fun hm => ?_, List.nodup_append.2 ⟨t1.mem.1, h1.mem.1, fun a ha b hb2 e => by subst e; exact hoth a hb2 ha⟩⟩
        rcases List.mem_append.1 hm with hm | hm
        · exact hnS' hm
        · exact nd_n (by simp [hm])
      have hKN : KidP T1.nds six d.p false r1 := by
        rcases R.top with e | ⟨e, he1, he2⟩
        · exact .inl e
        · refine .inr ⟨e, he1, he2 d.p false h4.ok.len0.1 (fun e0 he0 => ?_)⟩
          rcases k0 with k | ⟨e2, q1, q2⟩
          · exfalso
            rw [k] at h0
            have := h0.of_zero
            rw [this.2] at hg2
            exact hg2 rfl
          · rw [he0] at q1; cases q1; exact q2
      have hKO : KidP T1.nds six d.p true d.k1 := by
        rcases k1 with k | ⟨e2, q1, q2⟩
        · exact .inl k
        · by_cases hz : d.k1 = 0
          · exact .inl hz
          · exact .inr ⟨e2, (gO _ (h1.root hz)).trans q1, q2⟩
      have hNo : Node9 six d.p (delT cmpP p L0) L1 := ⟨h4.ok, del_order p L0 h4.ordL, h4.ordR, fun x hx => h4.left x (del_mem p L0 x hx), h4.right⟩
      have hfr1 : ∀ k ∈ T1.free, k ≠ 0 ∧ k < T1.nds.length ∧ k ∉ n :: (S1' ++ S1) := fun k hk => by
        obtain ⟨h5, h6⟩ := R.free k hk
        have hk0 : k ≠ 0 ∧ k < T.nds.length := by
          rcases h5 with h5 | h5
          · exact ⟨(hfr k h5).1, (hfr k h5).2.1⟩
          · exact h0.mem.2 k h5
        refine ⟨hk0.1, by rw [R.len]; exact hk0.2, fun hm => ?_⟩
        have hin : k ∈ n :: S1 := by
          rcases List.mem_cons.1 hm with rfl | hm
          · simp
          · rcases List.mem_append.1 hm with hm | hm
            · exact absurd hm h6
            · simp [hm]
        rcases h5 with h5 | h5
        · refine (hfr k h5).2.2 ?_
          rcases List.mem_cons.1 hin with rfl | hin
          · simp
          · simp [hin]
        · rcases List.mem_cons.1 hin with rfl | hin
          · exact hnS h5
          · exact hdis k h5 hin
      obtain ⟨r, T', S', f1, f2, f3, f4, f5, f6, f7, f8, f9⟩ := fin_tree (f := f) T1 n (d.setKid false r1) S1' S1 (delT cmpP p L0) L1 hn hn1 t1 hTO (by rw [setKid_len]; exact hNo) (by rw [setKid_len]; exact hKN) (by rw [setKid_len]; exact hKO) hND hfr1 R.fnd
      refine ⟨r, T', S', ?_, ?_, fun k hk => ?_, fun k hk => ?_, fun k hk => ⟨?_, (f5 k hk).2⟩, f6, f7.trans R.len, ?_, R.same.trans f9⟩
      · unfold remN
        rw [hd]
        simp only
        rw [if_neg (by rw [he]; simp), hb, show d.kid false = d.k0 from rfl, e1]
        exact f1
      · rw [setKid_len] at f2
        rw [del_left h4 hs]
        exact f2
      · rw [f4 k (fun e => hk (by rw [e]; simp))]
        exact R.keep k (fun hm => hk (by simp [hm]))
      · rcases List.mem_cons.1 (f3 k hk) with rfl | h
        · simp
        · rcases List.mem_append.1 h with h | h
          · simp [R.sub k h]
          · simp [h]
      · rcases (f5 k hk).1 with h | rfl
        · rcases (R.free k h).1 with h | h
          · exact .inl h
          · exact .inr (by simp [h])
        · exact .inr (by simp)
      · rcases f8 with e | ⟨e, q1, q2⟩
        · exact .inl e
        · refine .inr ⟨e, q1, fun q b hq0 hqn => ?_⟩
          have hqd := hqn d hd
          rw [setKid_len] at q2
          rcases q2 with q2 | ⟨c, q2⟩
          · rw [q2]; exact hqd
          · exact SideP.trans hq0 hqd q2
    | true =>
      rw [hb] at hs
      have hg2 : getT cmpP p L1 ≠ none := by rw [get_right h4 hs] at hg; exact hg
      obtain ⟨r1, T1, S1', e1, t1, R⟩ := rem_tree hp f F T d.k1 S1 L1 h1 (fun k hk => ⟨(hfr k hk).1, (hfr k hk).2.1, fun hm => (hfr k hk).2.2 (by simp [hm])⟩) hfn hg2 (by omega)
      have hnS : n ∉ S1 := fun hm => nd_n (by simp [hm])
      have hn1 : n < T1.nds.length := by rw [R.len]; exact hnl
      have hoth : ∀ k ∈ S0, k ∉ S1' := fun k hk hm => hdis k hk (R.sub k hm)
      have hnS' : n ∉ S1' := fun hm => hnS (R.sub n hm)
      have gO : ∀ k ∈ S0, T1.nds[k]? = T.nds[k]? := fun k hk => R.keep k (fun hm => hdis k hk hm)
      have hTO := h0.frame gO
      have hND : (n :: (S0 ++ S1')).Nodup := by
        refine List.nodup_cons.2 ⟨fun hm => ?_, List.nodup_append.2 ⟨h0.mem.1, t1.mem.1, fun a ha b hb2 e => by subst e; exact hoth a ha hb2⟩⟩
        rcases List.mem_append.1 hm with hm | hm
        · exact nd_n (by simp [hm])
        · exact hnS' hm
      have hKN : KidP T1.nds six d.p true r1 := by
        rcases R.top with e | ⟨e, he1, he2⟩
        · exact .inl e
        · refine .inr ⟨e, he1, he2 d.p true h4.ok.len0.1 (fun e0 he0 => ?_)⟩
          rcases k1 with k | ⟨e2, q1, q2⟩
          · exfalso
            rw [k] at h1
            have := h1.of_zero
            rw [this.2] at hg2
            exact hg2 rfl
          · rw [he0] at q1; cases q1; exact q2
      have hKO : KidP T1.nds six d.p false d.k0 := by
        rcases k0 with k | ⟨e2, q1, q2⟩
        · exact .inl k
        · by_cases hz : d.k0 = 0
          · exact .inl hz
          · exact .inr ⟨e2, (gO _ (h0.root hz)).trans q1, q2⟩
      have hNo : Node9 six d.p L0 (delT cmpP p L1) := ⟨h4.ok, h4.ordL, del_order p L1 h4.ordR, h4.left, fun x hx => h4.right x (del_mem p L1 x hx)⟩
      have hfr1 : ∀ k ∈ T1.free, k ≠ 0 ∧ k < T1.nds.length ∧ k ∉ n :: (S0 ++ S1') := fun k hk => by
        obtain ⟨h5, h6⟩ := R.free k hk
        have hk0 : k ≠ 0 ∧ k < T.nds.length := by
          rcases h5 with h5 | h5
          · exact ⟨(hfr k h5).1, (hfr k h5).2.1⟩
          · exact h1.mem.2 k h5
        refine ⟨hk0.1, by rw [R.len]; exact hk0.2, fun hm => ?_⟩
        have hin : k ∈ n :: S0 := by
          rcases List.mem_cons.1 hm with rfl | hm
          · simp
          · rcases List.mem_append.1 hm with hm | hm
            · simp [hm]
            · exact absurd hm h6
        rcases h5 with h5 | h5
        · refine (hfr k h5).2.2 ?_
          rcases List.mem_cons.1 hin with rfl | hin
          · simp
          · simp [hin]
        · rcases List.mem_cons.1 hin with rfl | hin
          · exact hnS h5
          · exact hdis k hin h5
      obtain ⟨r, T', S', f1, f2, f3, f4, f5, f6, f7, f8, f9⟩ := fin_tree (f := f) T1 n (d.setKid true r1) S0 S1' L0 (delT cmpP p L1) hn hn1 hTO t1 (by rw [setKid_len]; exact hNo) (by rw [setKid_len]; exact hKO) (by rw [setKid_len]; exact hKN) hND hfr1 R.fnd
      refine ⟨r, T', S', ?_, ?_, fun k hk => ?_, fun k hk => ?_, fun k hk => ⟨?_, (f5 k hk).2⟩, f6, f7.trans R.len, ?_, R.same.trans f9⟩
      · unfold remN
        rw [hd]
        simp only
        rw [if_neg (by rw [he]; simp), hb, show d.kid true = d.k1 from rfl, e1]
        exact f1
      · rw [setKid_len] at f2
        rw [del_right h4 hs]
        exact f2
      · rw [f4 k (fun e => hk (by rw [e]; simp))]
        exact R.keep k (fun hm => hk (by simp [hm]))
      · rcases List.mem_cons.1 (f3 k hk) with rfl | h
        · simp
        · rcases List.mem_append.1 h with h | h
          · simp [h]
          · simp [R.sub k h]
      · rcases (f5 k hk).1 with h | rfl
        · rcases (R.free k h).1 with h | h
          · exact .inl h
          · exact .inr (by simp [h])
        · exact .inr (by simp)
      · rcases f8 with e | ⟨e, q1, q2⟩
        · exact .inl e
        · refine .inr ⟨e, q1, fun q b hq0 hqn => ?_⟩
          have hqd := hqn d hd
          rw [setKid_len] at q2
          rcases q2 with q2 | ⟨c, q2⟩
          · rw [q2]; exact hqd
          · exact SideP.trans hq0 hqd q2
end Go.Proofs.Ytbbmckmhgggeeaa

/- Parse of package colon. Proved: what it returns. -/
import Derived.Test.YtlbgmpjeckigjaaDoorColC
namespace Go.Proofs.YtlbgmpjeckigjaaDoor
open Go Go.RowKit

/-- The address of a text. -/
def addrO : Option (List Nat) → List UInt8
  | some g => ofB (natsI g)
  | none => List.replicate 16 0
def colA (l : List UInt8) : List UInt8 := addrO (colV l)
theorem okI_nats (g : List Nat) (h : ∀ n ∈ g, n ≤ 65535) : okI (natsI g) = true := by
  unfold okI natsI
  rw [List.all_eq_true]
  intro x hx
  obtain ⟨n, hn, rfl⟩ := List.mem_map.1 hx
  have := h n hn
  simp only [Bool.and_eq_true, decide_eq_true_eq]
  exact ⟨Int.natCast_nonneg n, by show (n : Int) ≤ 65535; omega⟩
theorem ofL_nats (g : List Nat) (h : ∀ n ∈ g, n ≤ 65535) : ofL (natsI g) = ofB (natsI g) := by unfold ofL; rw [okI_nats g h]; rfl
theorem natsI_range (g : List Nat) (h : ∀ n ∈ g, n ≤ 65535) (hl : g.length = 8) : ∀ k, k < 8 → -9223372036854775808 ≤ intAt (natsI g) k ∧ intAt (natsI g) k ≤ 9223372036854775807 := by
  intro k hk
  rw [natsI_at]
  have := h (g.getD k 0) (by simp [List.getD, show k < g.length by omega])
  omega
theorem rowV_le {l : List UInt8} {last : Bool} {g : List Nat} (h : rowV l last = some g) : ∀ n ∈ g, n ≤ 65535 := by
  unfold rowV at h
  split at h
  · cases h; intro n hn; simp at hn
  · exact rowP_le last _ g h
theorem readO_none {l : List UInt8} {last : Bool} (h : readO l last = none) : rowV l last = none ∨ ∃ g, rowV l last = some g ∧ 8 < g.length := by
  cases hr : rowV l last with
  | none => exact .inl rfl
  | some g =>
    refine .inr ⟨g, rfl, ?_⟩
    unfold readO at h
    rw [hr] at h
    unfold cap8 at h
    simp only at h
    split at h
    · cases h
    · omega
theorem colV_bad {l : List UInt8} (hc : cc l = none) (h : readO l true = none) : colV l = none := by
  unfold colV
  rw [hc]
  rcases readO_none h with hr | ⟨g, hr, hg⟩
  · simp only [hr]
  · simp only [hr]; rw [if_neg (by omega)]
theorem colV_few {l : List UInt8} {g : List Nat} (hc : cc l = none) (h : readO l true = some g) (hg : g.length ≠ 8) : colV l = none := by
  unfold colV
  rw [hc]
  simp only [(readO_len h).2]
  rw [if_neg hg]
theorem colV_all {l : List UInt8} {g : List Nat} (hc : cc l = none) (h : readO l true = some g) (hg : g.length = 8) : colV l = some g ∧ ∀ n ∈ g, n ≤ 65535 := by
  refine ⟨?_, rowV_le (readO_len h).2⟩
  unfold colV
  rw [hc]
  simp only [(readO_len h).2]
  rw [if_pos hg]
theorem colV_cut1 {l : List UInt8} {k : Nat} (hc : cc l = some k) (h : readO (l.take k) false = none) : colV l = none := by
  unfold colV
  rw [hc]
  rcases readO_none h with hr | ⟨g, hr, hg⟩
  · simp only [hr]
  · simp only [hr]
    cases rowV (l.drop (k + 2)) true with
    | none => rfl
    | some b => simp only; rw [if_neg (by omega)]
theorem colV_cut2 {l : List UInt8} {k : Nat} (hc : cc l = some k) (h : readO (l.drop (k + 2)) true = none) : colV l = none := by
  unfold colV
  rw [hc]
  rcases readO_none h with hr | ⟨g, hr, hg⟩
  · simp only [hr]
    cases rowV (l.take k) false <;> rfl
  · simp only [hr]
    cases rowV (l.take k) false with
    | none => rfl
    | some b => simp only; rw [if_neg (by omega)]
theorem colV_cutM {l : List UInt8} {k : Nat} {a b : List Nat} (hc : cc l = some k) (ha : readO (l.take k) false = some a) (hb : readO (l.drop (k + 2)) true = some b) (h : ¬ a.length + b.length ≤ 7) : colV l = none := by
  unfold colV
  rw [hc]
  simp only [(readO_len ha).2, (readO_len hb).2]
  rw [if_neg h]
/-- Both sides, with as many 0s between as lack. -/
def bothG (a b : List Nat) : List Nat := a ++ List.replicate (8 - a.length - b.length) 0 ++ b
theorem colV_cut {l : List UInt8} {k : Nat} {a b : List Nat} (hc : cc l = some k) (ha : readO (l.take k) false = some a) (hb : readO (l.drop (k + 2)) true = some b) (h : a.length + b.length ≤ 7) : colV l = some (bothG a b) ∧ (∀ n ∈ bothG a b, n ≤ 65535) := by
  refine ⟨?_, fun n hn => ?_⟩
  · unfold colV
    rw [hc]
    simp only [(readO_len ha).2, (readO_len hb).2]
    rw [if_pos h]
    rfl
  · unfold bothG at hn
    rcases List.mem_append.1 hn with hn | hn
    · rcases List.mem_append.1 hn with hn | hn
      · exact rowV_le (readO_len ha).2 n hn
      · rw [List.eq_of_mem_replicate hn]; omega
    · exact rowV_le (readO_len hb).2 n hn
theorem bothG_length (a b : List Nat) (h : a.length + b.length ≤ 7) : (bothG a b).length = 8 := by simp [bothG]; omega
theorem both_splice (a b : List Nat) (h : a.length + b.length ≤ 7) : splice (intVals (fill8 a)) (8 - b.length) (intVals (natsI b)) = intVals (natsI (bothG a b)) := by
  have e3 : splice (intVals (fill8 a)) (8 - b.length) (intVals (natsI b)) = intVals (splice (fill8 a) (8 - b.length) (natsI b)) := by simp [splice, intVals]
  rw [e3]
  congr 1
  unfold splice bothG fill8 natsI
  have e : (List.map Int.ofNat a).length = a.length := by simp
  rw [List.take_append, List.take_of_length_le (by rw [e]; omega), List.drop_of_length_le (by simp; omega), List.append_nil, e, List.take_replicate, List.map_append, List.map_append, List.map_replicate]
  rw [show min (8 - b.length - a.length) (8 - a.length) = 8 - a.length - b.length by omega]
  rfl
theorem fill8_nats (g : List Nat) (h : g.length = 8) : fill8 g = natsI g := by unfold fill8 natsI; rw [h]; simp
theorem colA_length (l : List UInt8) : (colA l).length = 16 := by
  unfold colA
  cases hc : colV l with
  | none => simp [addrO]
  | some g =>
    have hg : g.length = 8 := by
      unfold colV at hc
      split at hc
      · split at hc
        · split at hc
          · cases hc; assumption
          · cases hc
        · cases hc
      · split at hc
        · split at hc
          · cases hc
            rename_i h
            exact bothG_length _ _ h
          · cases hc
        · cases hc
    show (ofB (natsI g)).length = 16
    rw [ofB_length, natsI_length, hg]
theorem below_drewN {B : Nat} {w W : World} (h : Below B w W) (q : Nat) : Below B w (W.drewN q) := h.trans ⟨rfl, rfl, rfl, Nat.le_refl _, fun _ _ => rfl⟩
theorem IntT.drewN {t : TypeId} {W : World} {g : Nat} {c : List Int} (h : IntT t W g c) (q : Nat) : IntT t (W.drewN q) g c := h
theorem ArrT.drewN {t : TypeId} {W : World} {g : Nat} {c : List UInt8} (h : ArrT t W g c) (q : Nat) : ArrT t (W.drewN q) g c := h
theorem rdV_nine {l : List UInt8} {last : Bool} {g : List Nat} (h : readO l last = some g) : (rowI g).length = 9 := rowI_length g (readO_len h).1
/-- What is held at the last copy. -/
def CopyS (B n : Nat) (W : World) : Prop := W.cell? ⟨B, 8, none⟩ = some (.int .i64 (n : Int))
set_option maxRecDepth 100000 in
set_option maxHeartbeats 8000000 in
theorem parse_none (s : ByteArray) (l : List UInt8) (hl : s.data.toList = l) (w : World) (hE : Env w) (hs : s.size ≤ 1000000) (hc : cc l = none) :
    Calls Tryd.prog 58 #[.string s] w fun r w' => r = .returned (.tuple #[arrV (colA l), .bool (colV l).isSome]) ∧ Below w.heap.size w w' := by
  have z0 : ArrT 22 (w.alloc (.cells (byteVals (List.replicate 16 0)).toArray 22)) w.heap.size (List.replicate 16 0) := arrT_new w _
  have zb : Below w.heap.size w (w.alloc (.cells (byteVals (List.replicate 16 0)).toArray 22)) := (Below.refl _ _).alloc (Nat.le_refl _) _
  obtain ⟨m, hm⟩ := (hE.up zb).max
  have hcut := Tryd.strings_Cut s ⟨#[58, 58]⟩ m _ (by omega) hm
  rw [show (⟨#[58, 58]⟩ : ByteArray).data.toList = [58, 58] from rfl, hl, cut_none hc] at hcut
  have hRD := fun W => read_any s true W hs
  rw [hl] at hRD
  rw [← zero16'] at hcut z0 zb
  have HCUT := Lib.hid hcut
  have Z := Lib.hid (And.intro z0 zb)
  clear z0 zb hcut hm hE
  cases hr : readO l true with
  | none =>
    have e := colV_bad hc hr
    have e2 : colA l = List.replicate 16 0 := by unfold colA; rw [e]; rfl
    rw [e, e2]
    rw [hr] at hRD
    have HRD := Lib.hid hRD
    clear hRD e e2 hr
    go_enter Tryd.func58, Tryd.ntmps58
    go_wp2_with (first | (go_at_call 40; refine HCUT.out.mono ?_; rintro e w1 ⟨rfl, q, rfl⟩) | (go_at_call 67; refine (HRD.out _).mono ?_; rintro e w2 ⟨rfl, b2⟩; refine Hid.out ?_))
    refine Lib.hid ?_
    have h2 : ArrT 22 w2 w.heap.size (List.replicate 16 0) ∧ Below w.heap.size w w2 := ⟨(Z.out.1.drewN q).up b2, below_up (below_drewN Z.out.2 q) b2 (below_drewN Z.out.2 q).size⟩
    have H3 : Hid (∀ o, ArrT 22 (w2.alloc o) w.heap.size (List.replicate 16 0) ∧ Below w.heap.size w (w2.alloc o)) := fun o => ⟨h2.1.allocO o, h2.2.alloc h2.2.size o⟩
    clear h2 b2 Z
    go_wp2_with (first | (refine wpList_store_newI rfl (.tmp 7) (.tmp 25) rfl rowI0 row9 _ rfl rfl rfl ?_) | (refine wpList_store_arrT rfl (.tmp 2) (.tmp 34) rfl w.heap.size (List.replicate 16 0) arr16 (List.replicate 16 0) rfl rfl (H3.out _).1 rfl ?_))
    exact bodyPost_ret (results_arrT2 Tryd.results58 _ _ w.heap.size (List.replicate 16 0) arr16 rfl (arrT_setRow (H3.out _).1 _)) rfl ⟨rfl, below_setRow (H3.out _).2 (Nat.le_refl _) _⟩
  | some g =>
    have hg9 := rdV_nine hr
    have HG9 := Lib.hid hg9
    have hg8 := (readO_len hr).1
    rw [hr] at hRD
    have HRD := Lib.hid hRD
    have HSZ := Lib.hid (rowI_size g hg8)
    have HFL := Lib.hid (fill8_length g hg8)
    clear hRD hg9
    by_cases h8 : g.length = 8
    · obtain ⟨e, hle⟩ := colV_all hc hr h8
      have e2 : colA l = ofB (natsI g) := by unfold colA; rw [e]; rfl
      rw [e, e2]
      have hOF := fun W => of_any (natsI g) W (by rw [natsI_length]; exact h8) (natsI_range g hle h8)
      rw [okI_nats g hle, ofL_nats g hle] at hOF
      have HOF := Lib.hid hOF
      have HNL : Hid ((natsI g).length = 8) := by show _ = _; rw [natsI_length]; exact h8
      have HOL : Hid ((ofB (natsI g)).length = 16) := by show _ = _; rw [ofB_length, natsI_length, h8]
      have HF8 := Lib.hid (fill8_nats g h8)
      have h8' : (g.length : Int) = 8 := by omega
      have h8n : ((g.length : Int) != 8) = false := by simp [h8']
      clear hOF e e2 hle hr
      generalize ofB (natsI g) = D at *
      go_enter Tryd.func58, Tryd.ntmps58
      go_wp2_with (first | (go_at_call 40; refine HCUT.out.mono ?_; rintro e w1 ⟨rfl, q, rfl⟩) | (go_at_call 67; refine (HRD.out _).mono ?_; rintro e w2 ⟨rfl, b2⟩; refine Hid.out ?_))
      refine Lib.hid ?_
      have h2 : ArrT 22 w2 w.heap.size (List.replicate 16 0) ∧ Below w.heap.size w w2 := ⟨(Z.out.1.drewN q).up b2, below_up (below_drewN Z.out.2 q) b2 (below_drewN Z.out.2 q).size⟩
      have h3 : ArrT 22 (w2.alloc (.cells (intVals (rowI g)).toArray 78)) w.heap.size (List.replicate 16 0) ∧ Below w.heap.size w (w2.alloc (.cells (intVals (rowI g)).toArray 78)) := ⟨h2.1.allocO _, h2.2.alloc h2.2.size _⟩
      have h4 : IntT 78 (w2.alloc (.cells (intVals (rowI g)).toArray 78)) w2.heap.size (rowI g) := intT_new w2 _
      have hc8 := h4.cell 8 (by rw [HG9.out]; omega)
      rw [HSZ.out] at hc8
      have HFR : Hid ((w2.alloc (.cells (intVals (rowI g)).toArray 78)).rangeAt w2.heap.size 0 (intVals (natsI g))) := by
        rw [← HF8.out]
        exact IntT.front (b := [(g.length : Int)]) h4
      have H3 := Lib.hid h3
      clear h2 h3 h4 b2 Z
      go_wp2_with (first | (refine wpList_store_newI rfl (.tmp 7) (.tmp 25) rfl (rowI g) (by rw [HG9.out]; exact row9) _ rfl rfl (by rw [HG9.out]; rfl) ?_) | (refine wpList_load_intR rfl (.tmp 35) rfl w2.heap.size (natsI g) (by rw [HNL.out]; exact ints8.isRow) rfl HFR.out ?_) | (go_at_call 68; refine (HOF.out _).mono ?_; rintro e w3 ⟨rfl, b3⟩) | (refine wpList_store_arrT rfl (.tmp 2) (.tmp 38) rfl w.heap.size D (by rw [HOL.out]; exact arr16) (List.replicate 16 0) rfl rfl (H3.out.1.up b3) (by rw [HOL.out]; rfl) ?_))
      exact bodyPost_ret (results_arrT2 Tryd.results58 _ _ w.heap.size D (by rw [HOL.out]; exact arr16) rfl (arrT_setRow (H3.out.1.up b3) _)) rfl ⟨rfl, below_setRow (below_up H3.out.2 b3 H3.out.2.size) (Nat.le_refl _) _⟩
    · have e := colV_few hc hr h8
      have e2 : colA l = List.replicate 16 0 := by unfold colA; rw [e]; rfl
      rw [e, e2]
      have h8' : ¬ (g.length : Int) = 8 := by omega
      have h8n : ((g.length : Int) != 8) = true := by simp [h8']
      clear e e2 hr
      go_enter Tryd.func58, Tryd.ntmps58
      go_wp2_with (first | (go_at_call 40; refine HCUT.out.mono ?_; rintro e w1 ⟨rfl, q, rfl⟩) | (go_at_call 67; refine (HRD.out _).mono ?_; rintro e w2 ⟨rfl, b2⟩; refine Hid.out ?_))
      refine Lib.hid ?_
      have h2 : ArrT 22 w2 w.heap.size (List.replicate 16 0) ∧ Below w.heap.size w w2 := ⟨(Z.out.1.drewN q).up b2, below_up (below_drewN Z.out.2 q) b2 (below_drewN Z.out.2 q).size⟩
      have H3 : Hid (∀ o, ArrT 22 (w2.alloc o) w.heap.size (List.replicate 16 0) ∧ Below w.heap.size w (w2.alloc o)) := fun o => ⟨h2.1.allocO o, h2.2.alloc h2.2.size o⟩
      have h4 : IntT 78 (w2.alloc (.cells (intVals (rowI g)).toArray 78)) w2.heap.size (rowI g) := intT_new w2 _
      have hc8 := h4.cell 8 (by rw [HG9.out]; omega)
      rw [HSZ.out] at hc8
      clear h2 h4 b2 Z
      go_wp2_with (first | (refine wpList_store_newI rfl (.tmp 7) (.tmp 25) rfl (rowI g) (by rw [HG9.out]; exact row9) _ rfl rfl (by rw [HG9.out]; rfl) ?_) | (refine wpList_store_arrT rfl (.tmp 2) (.tmp 34) rfl w.heap.size (List.replicate 16 0) arr16 (List.replicate 16 0) rfl rfl (H3.out _).1 rfl ?_))
      exact bodyPost_ret (results_arrT2 Tryd.results58 _ _ w.heap.size (List.replicate 16 0) arr16 rfl (arrT_setRow (H3.out _).1 _)) rfl ⟨rfl, below_setRow (H3.out _).2 (Nat.le_refl _) _⟩
theorem str_list (l : List UInt8) : (⟨l.toArray⟩ : ByteArray).data.toList = l := rfl
theorem str_len (l : List UInt8) : (⟨l.toArray⟩ : ByteArray).size = l.length := by simp [ByteArray.size]
theorem colA_no {l : List UInt8} (h : colV l = none) : colA l = List.replicate 16 0 := by unfold colA; rw [h]; rfl
theorem colA_yes {l : List UInt8} {g : List Nat} (h : colV l = some g) : colA l = ofB (natsI g) := by unfold colA; rw [h]; rfl
set_option maxRecDepth 100000 in
set_option maxHeartbeats 8000000 in
theorem parse_some (s : ByteArray) (l : List UInt8) (hl : s.data.toList = l) (w : World) (hE : Env w) (hs : s.size ≤ 1000000) (k : Nat) (hc : cc l = some k) :
    Calls Tryd.prog 58 #[.string s] w fun r w' => r = .returned (.tuple #[arrV (colA l), .bool (colV l).isSome]) ∧ Below w.heap.size w w' := by
  have z0 : ArrT 22 (w.alloc (.cells (byteVals (List.replicate 16 0)).toArray 22)) w.heap.size (List.replicate 16 0) := arrT_new w _
  have zb : Below w.heap.size w (w.alloc (.cells (byteVals (List.replicate 16 0)).toArray 22)) := (Below.refl _ _).alloc (Nat.le_refl _) _
  obtain ⟨m, hm⟩ := (hE.up zb).max
  have hcut := Tryd.strings_Cut s ⟨#[58, 58]⟩ m _ (by omega) hm
  rw [show (⟨#[58, 58]⟩ : ByteArray).data.toList = [58, 58] from rfl, hl, cut_some hc] at hcut
  have hll : l.length = s.size := by rw [← hl]; rfl
  have hR1 := fun W => read_any ⟨(l.take k).toArray⟩ false W (by rw [str_len, List.length_take]; omega)
  have hR2 := fun W => read_any ⟨(l.drop (k + 2)).toArray⟩ true W (by rw [str_len, List.length_drop]; omega)
  rw [str_list] at hR1 hR2
  rw [← zero16'] at hcut z0 zb
  have HCUT := Lib.hid hcut
  have Z := Lib.hid (And.intro z0 zb)
  clear z0 zb hcut hm hE hll
  obtain ⟨R1, q1⟩ : ∃ R, rdV (readO (l.take k) false) = R := ⟨_, rfl⟩
  obtain ⟨b1, p1⟩ : ∃ b, (readO (l.take k) false).isSome = b := ⟨_, rfl⟩
  obtain ⟨R2, q2⟩ : ∃ R, rdV (readO (l.drop (k + 2)) true) = R := ⟨_, rfl⟩
  obtain ⟨b2, p2⟩ : ∃ b, (readO (l.drop (k + 2)) true).isSome = b := ⟨_, rfl⟩
  rw [q1, p1] at hR1
  rw [q2, p2] at hR2
  have HR1 := Lib.hid hR1
  have HR2 := Lib.hid hR2
  have HL1 : Hid (R1.length = 9) := by show _ = _; rw [← q1]; exact rdV_length _ _
  have HL2 : Hid (R2.length = 9) := by show _ = _; rw [← q2]; exact rdV_length _ _
  have F1 : Hid (b1 = false → colV l = none) := fun e => colV_cut1 hc (by cases h : readO (l.take k) false with | none => rfl | some g => rw [h] at p1; rw [← p1] at e; cases e)
  have F2 : Hid (b2 = false → colV l = none) := fun e => colV_cut2 hc (by cases h : readO (l.drop (k + 2)) true with | none => rfl | some g => rw [h] at p2; rw [← p2] at e; cases e)
  have F3 : Hid (b1 = true → ∃ a, readO (l.take k) false = some a ∧ R1 = rowI a) := fun e => by
    cases h : readO (l.take k) false with
    | none => rw [h] at p1; rw [← p1] at e; cases e
    | some a => exact ⟨a, rfl, by rw [← q1, h]; rfl⟩
  have F4 : Hid (b2 = true → ∃ a, readO (l.drop (k + 2)) true = some a ∧ R2 = rowI a) := fun e => by
    cases h : readO (l.drop (k + 2)) true with
    | none => rw [h] at p2; rw [← p2] at e; cases e
    | some a => exact ⟨a, rfl, by rw [← q2, h]; rfl⟩
  clear hR1 hR2 q1 p1 q2 p2
  have HC := Lib.hid hc
  clear hc
  go_enter Tryd.func58, Tryd.ntmps58
  go_wp2_with (first | (go_at_call 40; refine HCUT.out.mono ?_; rintro e w1 ⟨rfl, q, rfl⟩; refine Hid.out ?_))
  refine Lib.hid ?_
  have h1 : ArrT 22 ((w.alloc (.cells #[.int .u8 0, .int .u8 0, .int .u8 0, .int .u8 0, .int .u8 0, .int .u8 0, .int .u8 0, .int .u8 0, .int .u8 0, .int .u8 0, .int .u8 0, .int .u8 0, .int .u8 0, .int .u8 0, .int .u8 0, .int .u8 0] 22)).drewN q) w.heap.size (List.replicate 16 0) ∧ Below w.heap.size w ((w.alloc (.cells #[.int .u8 0, .int .u8 0, .int .u8 0, .int .u8 0, .int .u8 0, .int .u8 0, .int .u8 0, .int .u8 0, .int .u8 0, .int .u8 0, .int .u8 0, .int .u8 0, .int .u8 0, .int .u8 0, .int .u8 0, .int .u8 0] 22)).drewN q) := ⟨Z.out.1.drewN q, below_drewN Z.out.2 q⟩
  have H1 := Lib.hid h1
  clear h1 HCUT Z
  generalize ((w.alloc (.cells #[.int .u8 0, .int .u8 0, .int .u8 0, .int .u8 0, .int .u8 0, .int .u8 0, .int .u8 0, .int .u8 0, .int .u8 0, .int .u8 0, .int .u8 0, .int .u8 0, .int .u8 0, .int .u8 0, .int .u8 0, .int .u8 0] 22)).drewN q) = W1 at *
  go_wp2_with (first | (go_at_call 67; refine (HR1.out _).mono ?_; rintro e w2 ⟨rfl, bb2⟩; refine Hid.out ?_))
  refine Lib.hid ?_
  have h2 : ArrT 22 w2 w.heap.size (List.replicate 16 0) ∧ Below w.heap.size w w2 := ⟨H1.out.1.up bb2, below_up H1.out.2 bb2 H1.out.2.size⟩
  have h3 : ArrT 22 (w2.alloc (.cells (intVals R1).toArray 78)) w.heap.size (List.replicate 16 0) ∧ Below w.heap.size w (w2.alloc (.cells (intVals R1).toArray 78)) ∧ IntT 78 (w2.alloc (.cells (intVals R1).toArray 78)) w2.heap.size R1 := ⟨h2.1.allocO _, h2.2.alloc h2.2.size _, intT_new w2 _⟩
  have H3 := Lib.hid h3
  have hlt1 : w.heap.size < w2.heap.size := h2.1.lt
  clear h2 h3 bb2 H1
  go_wp2_with (first | (refine wpList_store_newI rfl (.tmp 9) (.tmp 43) rfl R1 (by rw [HL1.out]; exact row9) _ rfl rfl (by rw [HL1.out]; rfl) ?_) | (go_at_call 67; refine (HR2.out _).mono ?_; rintro e w3 ⟨rfl, bb3⟩; refine Hid.out ?_))
  refine Lib.hid ?_
  have h4 : ArrT 22 (w3.alloc (.cells (intVals R2).toArray 78)) w.heap.size (List.replicate 16 0) ∧ Below w.heap.size w (w3.alloc (.cells (intVals R2).toArray 78)) ∧ IntT 78 (w3.alloc (.cells (intVals R2).toArray 78)) w2.heap.size R1 ∧ IntT 78 (w3.alloc (.cells (intVals R2).toArray 78)) w3.heap.size R2 := by
    have hb3 := below_up H3.out.2.1 bb3 H3.out.2.1.size
    exact ⟨(H3.out.1.up bb3).allocO _, hb3.alloc hb3.size _, (H3.out.2.2.up bb3).allocO _, intT_new w3 _⟩
  have hlt2 : w2.heap.size < w3.heap.size := (H3.out.2.2.up bb3).lt
  have HV := Lib.hid h4
  clear h4 bb3 H3
  go_wp2_with (first | (refine wpList_store_newI rfl (.tmp 11) (.tmp 48) rfl R2 (by rw [HL2.out]; exact row9) _ rfl rfl (by rw [HL2.out]; rfl) (Hid.out ?_)))
  refine Lib.hid ?_
  generalize (w3.alloc (.cells (intVals R2).toArray 78)) = V at *
  generalize w2.heap.size = B9 at *
  generalize w3.heap.size = B11 at *
  cases b1 with
  | false =>
    have hn := F1.out rfl
    have HNO : Hid (colV l = none ∧ colA l = List.replicate 16 0) := ⟨hn, colA_no hn⟩
    clear hn F1 F2 F3 F4
    go_wp2_with (refine wpList_store_arrT rfl (.tmp 2) (.tmp 64) rfl w.heap.size (List.replicate 16 0) arr16 (List.replicate 16 0) rfl rfl HV.out.1 rfl ?_)
    exact bodyPost_ret (results_arrT2 Tryd.results58 _ _ w.heap.size (List.replicate 16 0) arr16 rfl (arrT_setRow HV.out.1 _)) rfl ⟨by rw [HNO.out.1, HNO.out.2]; rfl, below_setRow HV.out.2.1 (Nat.le_refl _) _⟩
  | true =>
    cases b2 with
    | false =>
      have hn := F2.out rfl
      have HNO : Hid (colV l = none ∧ colA l = List.replicate 16 0) := ⟨hn, colA_no hn⟩
      clear hn F1 F2 F3 F4
      go_wp2_with (refine wpList_store_arrT rfl (.tmp 2) (.tmp 64) rfl w.heap.size (List.replicate 16 0) arr16 (List.replicate 16 0) rfl rfl HV.out.1 rfl ?_)
      exact bodyPost_ret (results_arrT2 Tryd.results58 _ _ w.heap.size (List.replicate 16 0) arr16 rfl (arrT_setRow HV.out.1 _)) rfl ⟨by rw [HNO.out.1, HNO.out.2]; rfl, below_setRow HV.out.2.1 (Nat.le_refl _) _⟩
    | true =>
      obtain ⟨a, ha, rfl⟩ := F3.out rfl
      obtain ⟨b, hb, rfl⟩ := F4.out rfl
      clear F1 F2 F3 F4
      have ha8 := (readO_len ha).1
      have hb8 := (readO_len hb).1
      have c1 := HV.out.2.2.1.cell 8 (by rw [HL1.out]; omega)
      have c2 := HV.out.2.2.2.cell 8 (by rw [HL2.out]; omega)
      rw [rowI_size a ha8] at c1
      rw [rowI_size b hb8] at c2
      by_cases hsum : a.length + b.length ≤ 7
      · obtain ⟨e, hle⟩ := colV_cut HC.out ha hb hsum
        have e2 := colA_yes e
        have hBL := bothG_length a b hsum
        have hOF := fun W => of_any (natsI (bothG a b)) W (by rw [natsI_length]; exact hBL) (natsI_range _ hle hBL)
        rw [okI_nats _ hle, ofL_nats _ hle] at hOF
        have HOF := Lib.hid hOF
        have HOL : Hid ((ofB (natsI (bothG a b))).length = 16) := by show _ = _; rw [ofB_length, natsI_length, hBL]
        have HYES : Hid (colA l = ofB (natsI (bothG a b)) ∧ colV l = some (bothG a b)) := ⟨e2, e⟩
        have HNL : Hid ((natsI (bothG a b)).length = 8) := by show _ = _; rw [natsI_length]; exact hBL
        have HSP := Lib.hid (both_splice a b hsum)
        have HF := Lib.hid (fill8_length a ha8)
        have HFR : Hid (V.rangeAt B9 0 (intVals (fill8 a))) := IntT.front (b := [(a.length : Int)]) HV.out.2.2.1
        have hge : ¬ (8 : Int) ≤ (a.length : Int) + (b.length : Int) := by omega
        clear hOF e e2 hle ha hb
        generalize ofB (natsI (bothG a b)) = D at *
        go_wp2_with (first | (refine wpList_load_intR rfl (.tmp 65) rfl B9 (fill8 a) (by rw [HF.out]; exact ints8.isRow) rfl HFR.out ?_) | (refine wpList_store_newI rfl (.tmp 13) (.tmp 66) rfl (fill8 a) (by rw [HF.out]; exact ints8.isRow) _ rfl rfl (by rw [HF.out]; rfl) ?_) | fail)
        obtain ⟨X, hX⟩ : ∃ X, (V.alloc (.cells (intVals (fill8 a)).toArray 60)).drew = X := ⟨_, rfl⟩
        have x0 : ArrT 22 X w.heap.size (List.replicate 16 0) ∧ Below w.heap.size w X ∧ IntT 78 X B11 (rowI b) ∧ IntT 60 X V.heap.size (fill8 a) := by
          rw [← hX]
          exact ⟨HV.out.1.allocO _, (HV.out.2.1.alloc HV.out.2.1.size _).drew, HV.out.2.2.2.allocO _, intT_new V _⟩
        have hBV : B11 < V.heap.size := HV.out.2.2.2.lt
        have hwV : w.heap.size < V.heap.size := HV.out.1.lt
        generalize V.heap.size = B13 at *
        obtain ⟨M, hM⟩ : ∃ M, 8 - b.length = M := ⟨_, rfl⟩
        have hs1 := fun W => slice_from ints8.row size_int W B13 M (by omega)
        have hs2 := fun W => slice_to ints8.row size_int W B11 b.length hb8
        obtain ⟨AD, hAD⟩ : ∃ AD : Addr, (if 8 = M then (⟨B13, 0, none⟩ : Addr) else ⟨B13, M, none⟩) = AD := ⟨_, rfl⟩
        rw [hAD] at hs1
        have hsub : (8 : Int) - (b.length : Int) = (M : Int) := by omega
        have hwM : IntKind.i64.wrap (M : Int) = (M : Int) := by rw [IntKind.wrap_i64]; omega
        have hc8 : CopyS B11 b.length X := by
          have := x0.2.2.1.cell 8 (by rw [HL2.out]; omega)
          rw [rowI_size b hb8] at this
          exact this
        refine wp_region_noPanic ?_
        refine wp_region_held_drew (S := CopyS B11 b.length) (by kernel_rfl) (by rw [hX]; exact hc8) (fun hHeld => ?_)
        rw [hX] at hHeld ⊢
        clear hX c1 c2 HV HFR
        refine held_take (v := ?v357) 0 rfl (by kernel_rfl) (by kernel_rfl) (by kernel_rfl) (fun _ _ _ h => h) (by rfl) ?y357 (by assumption) ?_
        case y357 => (intro w hSw; unfold CopyS at hSw; go_simp; (try with_reducible rfl); (try omega))
        simp only [List.setIfInBounds_toArray, List.set_cons_zero, List.set_cons_succ]
        refine held_take (v := ?v360) 1 rfl (by kernel_rfl) (by kernel_rfl) (by kernel_rfl) (fun _ _ _ h => h) (by rfl) ?y360 (by assumption) ?_
        case y360 => (intro w hSw; unfold CopyS at hSw; go_simp; (try with_reducible rfl); (try omega))
        simp only [List.setIfInBounds_toArray, List.set_cons_zero, List.set_cons_succ]
        refine held_take (v := ?v363) 2 rfl (by kernel_rfl) (by kernel_rfl) (by kernel_rfl) (fun _ _ _ h => h) (by rfl) ?y363 (by assumption) ?_
        case y363 => (intro w hSw; unfold CopyS at hSw; go_simp; (try with_reducible rfl); (try omega))
        simp only [List.setIfInBounds_toArray, List.set_cons_zero, List.set_cons_succ]
        refine held_take (v := ?v366) 3 rfl (by kernel_rfl) (by kernel_rfl) (by kernel_rfl) (fun _ _ _ h => h) (by rfl) ?y366 (by assumption) ?_
        case y366 => (intro w hSw; unfold CopyS at hSw; go_simp; (try with_reducible rfl); (try omega))
        simp only [List.setIfInBounds_toArray, List.set_cons_zero, List.set_cons_succ]
        refine held_take (v := ?v369) 4 rfl (by kernel_rfl) (by kernel_rfl) (by kernel_rfl) (fun _ _ _ h => h) (by rfl) ?y369 (by assumption) ?_
        case y369 => (intro w hSw; unfold CopyS at hSw; go_simp; (try with_reducible rfl); (try omega))
        simp only [List.setIfInBounds_toArray, List.set_cons_zero, List.set_cons_succ]
        refine held_take (v := ?v372) 5 rfl (by kernel_rfl) (by kernel_rfl) (by kernel_rfl) (fun _ _ _ h => h) (by rfl) ?y372 (by assumption) ?_
        case y372 => (intro w hSw; unfold CopyS at hSw; go_simp; (try with_reducible rfl); (try omega))
        simp only [List.setIfInBounds_toArray, List.set_cons_zero, List.set_cons_succ]
        refine held_take (v := ?v375) 6 rfl (by kernel_rfl) (by kernel_rfl) (by kernel_rfl) (fun _ _ _ h => h) (by rfl) ?y375 (by assumption) ?_
        case y375 => (intro w hSw; unfold CopyS at hSw; go_simp; (try with_reducible rfl); (try omega))
        simp only [List.setIfInBounds_toArray, List.set_cons_zero, List.set_cons_succ]
        refine held_take (v := ?v378) 7 rfl (by kernel_rfl) (by kernel_rfl) (by kernel_rfl) (fun _ _ _ h => h) (by rfl) ?y378 (by assumption) ?_
        case y378 => (intro w hSw; unfold CopyS at hSw; go_simp; (try with_reducible rfl); (try omega))
        simp only [List.setIfInBounds_toArray, List.set_cons_zero, List.set_cons_succ]
        refine held_one 8 rfl (by kernel_rfl) (by rfl) (fun K hK => ?_)
        refine wp_copy_set (.tmp 70) (.tmp 74) 65 65 rfl 3 Tryd.underlying65 sizeInt _ _ _ _ _ _ rfl rfl B13 M (intVals (fill8 a)) 60 x0.2.2.2 (intVals (natsI b)) (by rw [intVals_length, natsI_length]; exact (Nat.min_eq_left (by omega)).symm) (fun hp => ⟨by rw [← hAD, if_neg (by rw [intVals_length, natsI_length] at hp; omega)], ⟨B11, 0, none⟩, rfl, fun j v hj => by
          have hjl : j < b.length := by have := (List.getElem?_eq_some_iff.1 hj).1; rwa [intVals_length, natsI_length] at this
          rw [plain_add, Nat.zero_add]
          have h := x0.2.2.1.cell j (by rw [HL2.out]; omega)
          rw [h, ← hj, intVals_getElem? _ j (by rw [natsI_length]; exact hjl)]
          congr 2
          unfold intAt rowI fill8 natsI
          rw [List.getD, List.getD, List.append_assoc, List.getElem?_append_left (by simpa using hjl)]⟩) (by rw [intVals_length, intVals_length, natsI_length, HF.out]; omega) (intVals_oneCell _) ?_
        rw [← hM, HSP.out]
        have h5 : ArrT 22 (X.setRow B13 (intVals (natsI (bothG a b))).toArray) w.heap.size (List.replicate 16 0) ∧ Below w.heap.size w (X.setRow B13 (intVals (natsI (bothG a b))).toArray) ∧ IntT 60 (X.setRow B13 (intVals (natsI (bothG a b))).toArray) B13 (natsI (bothG a b)) := ⟨x0.1.rowOther (by omega) _, below_setRow x0.2.1 (by omega) _, intT_setRow x0.2.2.2 _⟩
        refine hK.out _ _ (by
          unfold CopyS
          rw [← hc8]
          unfold World.cell?
          simp only [setRow_other X B13 B11 _ (show B11 ≠ B13 by omega)]) (fun _ => ?_)
        clear hK K
        have H5 := Lib.hid h5
        clear h5 x0 hHeld hc8 HSP
        generalize X.setRow B13 (intVals (natsI (bothG a b))).toArray = Y at *
        generalize hGG : natsI (bothG a b) = GG at *
        refine wpAnyH_done (by kernel_rfl) ?_ _
        refine NoPanic.normal ?_
        clear hAD
        simp only [Act.put]
        go_wp2_with (first | (refine wpList_load_intT rfl (.tmp 13) rfl B13 GG (by rw [HNL.out]; exact ints8.isRow) rfl H5.out.2.2 ?_) | (go_at_call 68; refine (HOF.out _).mono ?_; rintro e w4 ⟨rfl, b4⟩) | (refine wpList_store_arrT rfl (.tmp 2) (.tmp 78) rfl w.heap.size D (by rw [HOL.out]; exact arr16) (List.replicate 16 0) rfl rfl (H5.out.1.up b4) (by rw [HOL.out]; rfl) ?_))
        exact bodyPost_ret (results_arrT2 Tryd.results58 _ _ w.heap.size D (by rw [HOL.out]; exact arr16) rfl (arrT_setRow (H5.out.1.up b4) _)) rfl ⟨by rw [HYES.out.1, HYES.out.2]; rfl, below_setRow (below_up H5.out.2.1 b4 H5.out.2.1.size) (Nat.le_refl _) _⟩
      · have hn := colV_cutM HC.out ha hb hsum
        have HNO : Hid (colV l = none ∧ colA l = List.replicate 16 0) := ⟨hn, colA_no hn⟩
        have hge : (8 : Int) ≤ (a.length : Int) + (b.length : Int) := by omega
        clear hn ha hb
        go_wp2_with (refine wpList_store_arrT rfl (.tmp 2) (.tmp 64) rfl w.heap.size (List.replicate 16 0) arr16 (List.replicate 16 0) rfl rfl HV.out.1 rfl ?_)
        exact bodyPost_ret (results_arrT2 Tryd.results58 _ _ w.heap.size (List.replicate 16 0) arr16 rfl (arrT_setRow HV.out.1 _)) rfl ⟨by rw [HNO.out.1, HNO.out.2]; rfl, below_setRow HV.out.2.1 (Nat.le_refl _) _⟩
theorem parse_any (s : ByteArray) (l : List UInt8) (hl : s.data.toList = l) (w : World) (hE : Env w) (hs : s.size ≤ 1000000) :
    Calls Tryd.prog 58 #[.string s] w fun r w' => r = .returned (.tuple #[arrV (colA l), .bool (colV l).isSome]) ∧ Below w.heap.size w w' := by
  cases hc : cc l with
  | none => exact parse_none s l hl w hE hs hc
  | some k => exact parse_some s l hl w hE hs k hc
theorem two_pair (x y : UInt8) : two (Int.ofNat (x.toNat * 256 + y.toNat)) = [x, y] := by
  have hx := UInt8.toNat_lt x
  have hy := UInt8.toNat_lt y
  unfold two
  have e1 : ((Int.ofNat (x.toNat * 256 + y.toNat)) / 256).toNat = x.toNat := by
    show (((x.toNat * 256 + y.toNat : Nat) : Int) / 256).toNat = x.toNat
    omega
  have e2 : ((Int.ofNat (x.toNat * 256 + y.toNat)) % 256).toNat = y.toNat := by
    show (((x.toNat * 256 + y.toNat : Nat) : Int) % 256).toNat = y.toNat
    omega
  rw [e1, e2]
  simp
theorem ofB_grp (a : List UInt8) (h : a.length = 16) : ofB (natsI (grpN a)) = a := by
  match a, h with
  | [a0, a1, a2, a3, a4, a5, a6, a7, a8, a9, a10, a11, a12, a13, a14, a15], _ =>
    show two (Int.ofNat (a0.toNat * 256 + a1.toNat)) ++ (two (Int.ofNat (a2.toNat * 256 + a3.toNat)) ++ (two (Int.ofNat (a4.toNat * 256 + a5.toNat)) ++ (two (Int.ofNat (a6.toNat * 256 + a7.toNat)) ++ (two (Int.ofNat (a8.toNat * 256 + a9.toNat)) ++ (two (Int.ofNat (a10.toNat * 256 + a11.toNat)) ++ (two (Int.ofNat (a12.toNat * 256 + a13.toNat)) ++ (two (Int.ofNat (a14.toNat * 256 + a15.toNat)) ++ []))))))) = _
    simp only [two_pair]
    rfl
theorem told (a : List UInt8) (h : a.length = 16) : colV (showA a) = some (grpN a) ∧ colA (showA a) = a := by
  have e := col_told (grpN a) (grpN_le a) (grpN_length a)
  exact ⟨e, (colA_yes e).trans (ofB_grp a h)⟩
theorem showA_len (a : List UInt8) : 2 ≤ (showA a).length ∧ (showA a).length ≤ 39 := showC_length _ (grpN_length a)
theorem showA_small (a : List UInt8) (k : Nat) (hk : k < (showA a).length) : ¬ (65 ≤ byteAt (showA a) k ∧ byteAt (showA a) k ≤ 70) := by
  have hm : (showA a)[k] ∈ showA a := List.getElem_mem hk
  have h := showC_small hm
  unfold byteAt
  simp only [List.getD, List.getElem?_eq_getElem hk, Option.getD_some]
  omega
end Go.Proofs.YtlbgmpjeckigjaaDoor

/- Parse of package colon. Proved: what it returns. -/
import Derived.Test.YteomoipbjkafgaaDoorCol9
namespace Go.Proofs.YteomoipbjkafgaaDoor
open Go Go.RowKit

/-- The address of a text. -/
def addrO : Option (List Nat) → List UInt8
  | some g => ofB (natsI g)
  | none => List.replicate 16 0
def colA (l : List UInt8) : List UInt8 := addrO (colV l)
theorem okI_nats (g : List Nat) (h : ∀ n ∈ g, n ≤ 65535) : okI (natsI g) = true := by
  unfold okI natsI
  rw [List.all_eq_true]
  intro x hx
  obtain ⟨n, hn, rfl⟩ := List.mem_map.1 hx
  have := h n hn
  simp only [Bool.and_eq_true, decide_eq_true_eq]
  exact ⟨Int.natCast_nonneg n, by show (n : Int) ≤ 65535; omega⟩
theorem ofL_nats (g : List Nat) (h : ∀ n ∈ g, n ≤ 65535) : ofL (natsI g) = ofB (natsI g) := by unfold ofL; rw [okI_nats g h]; rfl
theorem natsI_range (g : List Nat) (h : ∀ n ∈ g, n ≤ 65535) (hl : g.length = 8) : ∀ k, k < 8 → -9223372036854775808 ≤ intAt (natsI g) k ∧ intAt (natsI g) k ≤ 9223372036854775807 := by
  intro k hk
  rw [natsI_at]
  have := h (g.getD k 0) (by simp [List.getD, show k < g.length by omega])
  omega
theorem rowV_le {l : List UInt8} {last : Bool} {g : List Nat} (h : rowV l last = some g) : ∀ n ∈ g, n ≤ 65535 := by
  unfold rowV at h
  split at h
  · cases h; intro n hn; simp at hn
  · exact rowP_le last _ g h
theorem readO_none {l : List UInt8} {last : Bool} (h : readO l last = none) : rowV l last = none ∨ ∃ g, rowV l last = some g ∧ 8 < g.length := by
  cases hr : rowV l last with
  | none => exact .inl rfl
  | some g =>
    refine .inr ⟨g, rfl, ?_⟩
    unfold readO at h
    rw [hr] at h
    unfold cap8 at h
    simp only at h
    split at h
    · cases h
    · omega
theorem colV_bad {l : List UInt8} (hc : cc l = none) (h : readO l true = none) : colV l = none := by
  unfold colV
  rw [hc]
  rcases readO_none h with hr | ⟨g, hr, hg⟩
  · simp only [hr]
  · simp only [hr]; rw [if_neg (by omega)]
theorem colV_few {l : List UInt8} {g : List Nat} (hc : cc l = none) (h : readO l true = some g) (hg : g.length ≠ 8) : colV l = none := by
  unfold colV
  rw [hc]
  simp only [(readO_len h).2]
  rw [if_neg hg]
theorem colV_all {l : List UInt8} {g : List Nat} (hc : cc l = none) (h : readO l true = some g) (hg : g.length = 8) : colV l = some g ∧ ∀ n ∈ g, n ≤ 65535 := by
  refine ⟨?_, rowV_le (readO_len h).2⟩
  unfold colV
  rw [hc]
  simp only [(readO_len h).2]
  rw [if_pos hg]
theorem colV_cut1 {l : List UInt8} {k : Nat} (hc : cc l = some k) (h : readO (l.take k) false = none) : colV l = none := by
  unfold colV
  rw [hc]
  rcases readO_none h with hr | ⟨g, hr, hg⟩
  · simp only [hr]
  · simp only [hr]
    cases rowV (l.drop (k + 2)) true with
    | none => rfl
    | some b => simp only; rw [if_neg (by omega)]
theorem colV_cut2 {l : List UInt8} {k : Nat} (hc : cc l = some k) (h : readO (l.drop (k + 2)) true = none) : colV l = none := by
  unfold colV
  rw [hc]
  rcases readO_none h with hr | ⟨g, hr, hg⟩
  · simp only [hr]
    cases rowV (l.take k) false <;> rfl
  · simp only [hr]
    cases rowV (l.take k) false with
    | none => rfl
    | some b => simp only; rw [if_neg (by omega)]
theorem colV_cutM {l : List UInt8} {k : Nat} {a b : List Nat} (hc : cc l = some k) (ha : readO (l.take k) false = some a) (hb : readO (l.drop (k + 2)) true = some b) (h : ¬ a.length + b.length ≤ 7) : colV l = none := by
  unfold colV
  rw [hc]
  simp only [(readO_len ha).2, (readO_len hb).2]
  rw [if_neg h]
/-- Both sides, with as many 0s between as lack. -/
def bothG (a b : List Nat) : List Nat := a ++ List.replicate (8 - a.length - b.length) 0 ++ b
theorem colV_cut {l : List UInt8} {k : Nat} {a b : List Nat} (hc : cc l = some k) (ha : readO (l.take k) false = some a) (hb : readO (l.drop (k + 2)) true = some b) (h : a.length + b.length ≤ 7) : colV l = some (bothG a b) ∧ (∀ n ∈ bothG a b, n ≤ 65535) := by
  refine ⟨?_, fun n hn => ?_⟩
  · unfold colV
    rw [hc]
    simp only [(readO_len ha).2, (readO_len hb).2]
    rw [if_pos h]
    rfl
  · unfold bothG at hn
    rcases List.mem_append.1 hn with hn | hn
    · rcases List.mem_append.1 hn with hn | hn
      · exact rowV_le (readO_len ha).2 n hn
      · rw [List.eq_of_mem_replicate hn]; omega
    · exact rowV_le (readO_len hb).2 n hn
theorem bothG_length (a b : List Nat) (h : a.length + b.length ≤ 7) : (bothG a b).length = 8 := by simp [bothG]; omega
theorem both_splice (a b : List Nat) (h : a.length + b.length ≤ 7) : splice (intVals (fill8 a)) (8 - b.length) (intVals (natsI b)) = intVals (natsI (bothG a b)) := by
  have e3 : splice (intVals (fill8 a)) (8 - b.length) (intVals (natsI b)) = intVals (splice (fill8 a) (8 - b.length) (natsI b)) := by simp [splice, intVals]
  rw [e3]
  congr 1
  unfold splice bothG fill8 natsI
  have e : (List.map Int.ofNat a).length = a.length := by simp
  rw [List.take_append, List.take_of_length_le (by rw [e]; omega), List.drop_of_length_le (by simp; omega), List.append_nil, e, List.take_replicate, List.map_append, List.map_append, List.map_replicate]
  rw [show min (8 - b.length - a.length) (8 - a.length) = 8 - a.length - b.length by omega]
  rfl
theorem fill8_nats (g : List Nat) (h : g.length = 8) : fill8 g = natsI g := by unfold fill8 natsI; rw [h]; simp
theorem colA_length (l : List UInt8) : (colA l).length = 16 := by
  unfold colA
  cases hc : colV l with
  | none => simp [addrO]
  | some g =>
    have hg : g.length = 8 := by
      unfold colV at hc
      split at hc
      · split at hc
        · split at hc
          · cases hc; assumption
          · cases hc
        · cases hc
      · split at hc
        · split at hc
          · cases hc
            rename_i h
            exact bothG_length _ _ h
          · cases hc
        · cases hc
    show (ofB (natsI g)).length = 16
    rw [ofB_length, natsI_length, hg]
theorem below_drewN {B : Nat} {w W : World} (h : Below B w W) (q : Nat) : Below B w (W.drewN q) := h.trans ⟨rfl, rfl, rfl, Nat.le_refl _, fun _ _ => rfl⟩
theorem IntT.drewN {t : TypeId} {W : World} {g : Nat} {c : List Int} (h : IntT t W g c) (q : Nat) : IntT t (W.drewN q) g c := h
theorem ArrT.drewN {t : TypeId} {W : World} {g : Nat} {c : List UInt8} (h : ArrT t W g c) (q : Nat) : ArrT t (W.drewN q) g c := h
theorem rdV_nine {l : List UInt8} {last : Bool} {g : List Nat} (h : readO l last = some g) : (rowI g).length = 9 := rowI_length g (readO_len h).1
/-- What is held at the last copy. -/
def CopyS (B n : Nat) (W : World) : Prop := W.cell? ⟨B, 8, none⟩ = some (.int .i64 (n : Int))
set_option maxRecDepth 100000 in
set_option maxHeartbeats 8000000 in
theorem parse_none (s : ByteArray) (l : List UInt8) (hl : s.data.toList = l) (w : World) (hE : Env w) (hs : s.size ≤ 1000000) (hc : cc l = none) :
    Calls Tryd.prog 17 #[.string s] w fun r w' => r = .returned (.tuple #[arrV (colA l), .bool (colV l).isSome]) ∧ Below w.heap.size w w' := by
  have z0 : ArrT 22 (w.alloc (.cells (byteVals (List.replicate 16 0)).toArray 22)) w.heap.size (List.replicate 16 0) := arrT_new w _
  have zb : Below w.heap.size w (w.alloc (.cells (byteVals (List.replicate 16 0)).toArray 22)) := (Below.refl _ _).alloc (Nat.le_refl _) _
  obtain ⟨m, hm⟩ := (hE.up zb).max
  have hcut := Tryd.strings_Cut s ⟨#[58, 58]⟩ m _ (by omega) hm
  rw [show (⟨#[58, 58]⟩ : ByteArray).data.toList = [58, 58] from rfl, hl, cut_none hc] at hcut
  have hRD := fun W => read_any s true W hs
  rw [hl] at hRD
  rw [← zero16'] at hcut z0 zb
  have HCUT := Lib.hid hcut
  have Z := Lib.hid (And.intro z0 zb)
  clear z0 zb hcut hm hE
  cases hr : readO l true with
  | none =>
    have e := colV_bad hc hr
    have e2 : colA l = List.replicate 16 0 := by unfold colA; rw [e]; rfl
    rw [e, e2]
    rw [hr] at hRD
    have HRD := Lib.hid hRD
    clear hRD e e2 hr
    go_enter Tryd.func17, Tryd.ntmps17
    go_wp2_with (first | (go_at_call 28; refine HCUT.out.mono ?_; rintro e w1 ⟨rfl, q, rfl⟩) | (go_at_call 29; refine (HRD.out _).mono ?_; rintro e w2 ⟨rfl, b2⟩; refine Hid.out ?_))
    refine Lib.hid ?_
    have h2 : ArrT 22 w2 w.heap.size (List.replicate 16 0) ∧ Below w.heap.size w w2 := ⟨(Z.out.1.drewN q).up b2, below_up (below_drewN Z.out.2 q) b2 (below_drewN Z.out.2 q).size⟩
    have H3 : Hid (∀ o, ArrT 22 (w2.alloc o) w.heap.size (List.replicate 16 0) ∧ Below w.heap.size w (w2.alloc o)) := fun o => ⟨h2.1.allocO o, h2.2.alloc h2.2.size o⟩
    clear h2 b2 Z
    go_wp2_with (first | (refine wpList_store_newI rfl (.tmp 7) (.tmp 25) rfl rowI0 row9 _ rfl rfl rfl ?_) | (refine wpList_store_arrT rfl (.tmp 2) (.tmp 34) rfl w.heap.size (List.replicate 16 0) arr16 (List.replicate 16 0) rfl rfl (H3.out _).1 rfl ?_))
    exact bodyPost_ret (results_arrT2 Tryd.results17 _ _ w.heap.size (List.replicate 16 0) arr16 rfl (arrT_setRow (H3.out _).1 _)) rfl ⟨rfl, below_setRow (H3.out _).2 (Nat.le_refl _) _⟩
  | some g =>
    have hg9 := rdV_nine hr
    have HG9 := Lib.hid hg9
    have hg8 := (readO_len hr).1
    rw [hr] at hRD
    have HRD := Lib.hid hRD
    have HSZ := Lib.hid (rowI_size g hg8)
    have HFL := Lib.hid (fill8_length g hg8)
    clear hRD hg9
    by_cases h8 : g.length = 8
    · obtain ⟨e, hle⟩ := colV_all hc hr h8
      have e2 : colA l = ofB (natsI g) := by unfold colA; rw [e]; rfl
      rw [e, e2]
      have hOF := fun W => of_any (natsI g) W (by rw [natsI_length]; exact h8) (natsI_range g hle h8)
      rw [okI_nats g hle, ofL_nats g hle] at hOF
      have HOF := Lib.hid hOF
      have HNL : Hid ((natsI g).length = 8) := by show _ = _; rw [natsI_length]; exact h8
      have HOL : Hid ((ofB (natsI g)).length = 16) := by show _ = _; rw [ofB_length, natsI_length, h8]
      have HF8 := Lib.hid (fill8_nats g h8)
      have h8' : (g.length : Int) = 8 := by omega
      have h8n : ((g.length : Int) != 8) = false := by simp [h8']
      clear hOF e e2 hle hr
      generalize ofB (natsI g) = D at *
      go_enter Tryd.func17, Tryd.ntmps17
      go_wp2_with (first | (go_at_call 28; refine HCUT.out.mono ?_; rintro e w1 ⟨rfl, q, rfl⟩) | (go_at_call 29; refine (HRD.out _).mono ?_; rintro e w2 ⟨rfl, b2⟩; refine Hid.out ?_))
      refine Lib.hid ?_
      have h2 : ArrT 22 w2 w.heap.size (List.replicate 16 0) ∧ Below w.heap.size w w2 := ⟨(Z.out.1.drewN q).up b2, below_up (below_drewN Z.out.2 q) b2 (below_drewN Z.out.2 q).size⟩
      have h3 : ArrT 22 (w2.alloc (.cells (intVals (rowI g)).toArray 47)) w.heap.size (List.replicate 16 0) ∧ Below w.heap.size w (w2.alloc (.cells (intVals (rowI g)).toArray 47)) := ⟨h2.1.allocO _, h2.2.alloc h2.2.size _⟩
      have h4 : IntT 47 (w2.alloc (.cells (intVals (rowI g)).toArray 47)) w2.heap.size (rowI g) := intT_new w2 _
      have hc8 := h4.cell 8 (by rw [HG9.out]; omega)
      rw [HSZ.out] at hc8
      have HFR : Hid ((w2.alloc (.cells (intVals (rowI g)).toArray 47)).rangeAt w2.heap.size 0 (intVals (natsI g))) := by
        rw [← HF8.out]
        exact IntT.front (b := [(g.length : Int)]) h4
      have H3 := Lib.hid h3
      clear h2 h3 h4 b2 Z
      go_wp2_with (first | (refine wpList_store_newI rfl (.tmp 7) (.tmp 25) rfl (rowI g) (by rw [HG9.out]; exact row9) _ rfl rfl (by rw [HG9.out]; rfl) ?_) | (refine wpList_load_intR rfl (.tmp 35) rfl w2.heap.size (natsI g) (by rw [HNL.out]; exact ints8.isRow) rfl HFR.out ?_) | (go_at_call 19; refine (HOF.out _).mono ?_; rintro e w3 ⟨rfl, b3⟩) | (refine wpList_store_arrT rfl (.tmp 2) (.tmp 38) rfl w.heap.size D (by rw [HOL.out]; exact arr16) (List.replicate 16 0) rfl rfl (H3.out.1.up b3) (by rw [HOL.out]; rfl) ?_))
      exact bodyPost_ret (results_arrT2 Tryd.results17 _ _ w.heap.size D (by rw [HOL.out]; exact arr16) rfl (arrT_setRow (H3.out.1.up b3) _)) rfl ⟨rfl, below_setRow (below_up H3.out.2 b3 H3.out.2.size) (Nat.le_refl _) _⟩
    · have e := colV_few hc hr h8
      have e2 : colA l = List.replicate 16 0 := by unfold colA; rw [e]; rfl
      rw [e, e2]
      have h8' : ¬ (g.length : Int) = 8 := by omega
      have h8n : ((g.length : Int) != 8) = true := by simp [h8']
      clear e e2 hr
      go_enter Tryd.func17, Tryd.ntmps17
      go_wp2_with (first | (go_at_call 28; refine HCUT.out.mono ?_; rintro e w1 ⟨rfl, q, rfl⟩) | (go_at_call 29; refine (HRD.out _).mono ?_; rintro e w2 ⟨rfl, b2⟩; refine Hid.out ?_))
      refine Lib.hid ?_
      have h2 : ArrT 22 w2 w.heap.size (List.replicate 16 0) ∧ Below w.heap.size w w2 := ⟨(Z.out.1.drewN q).up b2, below_up (below_drewN Z.out.2 q) b2 (below_drewN Z.out.2 q).size⟩
      have H3 : Hid (∀ o, ArrT 22 (w2.alloc o) w.heap.size (List.replicate 16 0) ∧ Below w.heap.size w (w2.alloc o)) := fun o => ⟨h2.1.allocO o, h2.2.alloc h2.2.size o⟩
      have h4 : IntT 47 (w2.alloc (.cells (intVals (rowI g)).toArray 47)) w2.heap.size (rowI g) := intT_new w2 _
      have hc8 := h4.cell 8 (by rw [HG9.out]; omega)
      rw [HSZ.out] at hc8
      clear h2 h4 b2 Z
      go_wp2_with (first | (refine wpList_store_newI rfl (.tmp 7) (.tmp 25) rfl (rowI g) (by rw [HG9.out]; exact row9) _ rfl rfl (by rw [HG9.out]; rfl) ?_) | (refine wpList_store_arrT rfl (.tmp 2) (.tmp 34) rfl w.heap.size (List.replicate 16 0) arr16 (List.replicate 16 0) rfl rfl (H3.out _).1 rfl ?_))
      exact bodyPost_ret (results_arrT2 Tryd.results17 _ _ w.heap.size (List.replicate 16 0) arr16 rfl (arrT_setRow (H3.out _).1 _)) rfl ⟨rfl, below_setRow (H3.out _).2 (Nat.le_refl _) _⟩
end Go.Proofs.YteomoipbjkafgaaDoor

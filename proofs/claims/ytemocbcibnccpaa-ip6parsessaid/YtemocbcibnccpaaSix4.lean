/- Package ip6: Parse, Body, Ttl. Proved: what each returns, for every row of bytes (of at most a million). -/
import Derived.Test.YtemocbcibnccpaaSix3
namespace Go.Proofs.Ytemocbcibnccpaa
open Go Go.RowKit

def ip6H (l : List UInt8) : Hdr6 := if ip6C l = 0 then ip6R l else hdrZero6
def ttlA6 (l : List UInt8) (t : UInt8) : List UInt8 := if ip6C l = 0 then ttl6 l t else []
theorem ip6N_first (l : List UInt8) (h : 40 ≤ l.length) : ip6N l / 268435456 = (l.getD 0 0).toNat / 16 ∧ ip6N l < 4294967296 := by
  unfold ip6N
  match l, h with
  | b0 :: b1 :: b2 :: b3 :: l, _ =>
    have h0 := UInt8.toNat_lt b0
    have h1 := UInt8.toNat_lt b1
    have h2 := UInt8.toNat_lt b2
    have h3 := UInt8.toNat_lt b3
    show numOf [b0, b1, b2, b3] / 268435456 = b0.toNat / 16 ∧ _
    simp only [List.take_succ_cons, List.take_zero, numOf, List.foldl_cons, List.foldl_nil]
    omega
theorem ip6_ok {l : List UInt8} (h : ip6C l = 0) : ip6H l = ip6R l ∧ 40 ≤ l.length ∧ wordAt l 4 + 40 ≤ l.length ∧ (ip6R l).wide := by
  have h0 := h
  unfold ip6C at h
  split at h
  · simp at h
  · split at h
    · simp at h
    · split at h
      · simp at h
      · exact ⟨by unfold ip6H; rw [if_pos h0], by omega, by omega, ip6R_wide l (by omega)⟩
theorem ip6H_wide (l : List UInt8) : (ip6H l).wide := by
  by_cases h : ip6C l = 0
  · obtain ⟨e, _, _, f⟩ := ip6_ok h
    rw [e]; exact f
  · unfold ip6H; rw [if_neg h]; exact zero6_wide

set_option maxHeartbeats 1000000 in
theorem parse6_short (a : Option Addr) (n cap : Nat) (l : List UInt8) (w : World) (hv : IsB w (.slice a n cap) l) (h40 : l.length < 40) :
    Calls Try.prog 8 #[.slice a n cap] w fun r w' => r = .returned (.tuple #[hdrZero6.val, .int .i64 10]) ∧ Below w.heap.size w w' := by
  obtain ⟨rfl, h1, h2, h3⟩ := hv.cells
  clear hv h3
  go_enter Try.func8, Try.ntmps8
  go_wp2_with (refine wpList_store_new6 rfl (.tmp 2) (.tmp 8) rfl hdrZero6 zero6_wide _ rfl rfl rfl ?_)
  exact bodyPost_ret (results_hdr62 Try.results8 _ _ w.heap.size hdrZero6 zero6_wide rfl (heap_alloc_new w _)) rfl ⟨rfl, (Below.refl _ _).alloc (Nat.le_refl _) _⟩

set_option maxHeartbeats 1000000 in
theorem parse6_version (a : Option Addr) (n cap : Nat) (l : List UInt8) (w : World) (hv : IsB w (.slice a n cap) l) (h40 : 40 ≤ l.length) (hx : ¬ byteAt l 0 / 16 = 6) :
    Calls Try.prog 8 #[.slice a n cap] w fun r w' => r = .returned (.tuple #[hdrZero6.val, .int .i64 12]) ∧ Below w.heap.size w w' := by
  obtain ⟨a2, cap2, he, h1, h2, h3⟩ := id hv
  simp only [Value.slice.injEq] at he
  obtain ⟨rfl, rfl, rfl⟩ := he
  obtain ⟨b, off, rfl, hlt, hc⟩ := h3 (by omega)
  have c0 : ∀ o, (w.alloc o).cell? ⟨b, off, none⟩ = some (.int .u8 (byteAt l 0)) := fun o => (((Below.refl _ _).alloc (Nat.le_refl _) o).cell (p := ⟨b, off, none⟩) hlt).trans (hc 0 (by omega))
  have x0 := byteAt_nonneg l 0
  have x1 := byteAt_le l 0
  generalize byteAt l 0 = x at *
  clear hc h3 hv
  go_enter Try.func8, Try.ntmps8
  go_wp2_with (refine wpList_store_new6 rfl (.tmp 2) (.tmp 14) rfl hdrZero6 zero6_wide _ rfl rfl rfl ?_)
  exact bodyPost_ret (results_hdr62 Try.results8 _ _ w.heap.size hdrZero6 zero6_wide rfl (heap_alloc_new w _)) rfl ⟨rfl, (Below.refl _ _).alloc (Nat.le_refl _) _⟩

set_option maxRecDepth 100000 in
set_option maxHeartbeats 2000000 in
theorem parse6_more (a : Option Addr) (n cap : Nat) (l : List UInt8) (w : World) (hv : IsB w (.slice a n cap) l) (h40 : 40 ≤ l.length) (hlim : l.length ≤ 1000000) (hx : byteAt l 0 / 16 = 6) :
    Calls Try.prog 8 #[.slice a n cap] w fun r w' => r = .returned (.tuple #[(if l.length < wordAt l 4 + 40 then hdrZero6 else ip6R l).val, .int .i64 (if l.length < wordAt l 4 + 40 then 13 else 0)]) ∧ Below w.heap.size w w' := by
  obtain ⟨a2, cap2, he, h1, h2, h3⟩ := id hv
  simp only [Value.slice.injEq] at he
  obtain ⟨rfl, rfl, rfl⟩ := he
  obtain ⟨b, off, rfl, hlt, hc⟩ := h3 (by omega)
  have c0 : ∀ o, (w.alloc o).cell? ⟨b, off, none⟩ = some (.int .u8 (byteAt l 0)) := fun o => (((Below.refl _ _).alloc (Nat.le_refl _) o).cell (p := ⟨b, off, none⟩) hlt).trans (hc 0 (by omega))
  have HR := Lib.hid (fun W (hb : Below w.heap.size w W) => read6_any _ _ _ l W (hv.below hb) hlim h40)
  have HW := Lib.hid (ip6R_wide l h40)
  have HL : Hid ((ip6R l).len = (wordAt l 4 : Int)) := rfl
  have hwl := wordAt_le l 4
  have x0 := byteAt_nonneg l 0
  have x1 := byteAt_le l 0
  have HG := Lib.hid (heap_alloc_new w)
  have G0 : Hid (∀ o, Below w.heap.size w (w.alloc o)) := fun o => (Below.refl _ _).alloc (Nat.le_refl _) o
  generalize byteAt l 0 = x at *
  generalize ip6R l = R at *
  generalize wordAt l 4 = A at *
  clear hc h3 hv
  go_enter Try.func8, Try.ntmps8
  go_wp2_with (go_at_call 16; refine (HR.out _ (G0.out _)).mono ?_; rintro e w2 ⟨rfl, b2⟩; refine Hid.out ?_)
  refine Lib.hid ?_
  have G2 := Lib.hid ((b2.block w.heap.size (by simp)).trans (HG.out _))
  have B2 := Lib.hid (below_up (G0.out _) b2 (G0.out _).size)
  clear b2 c0 HR HG G0
  go_wp2_with (refine wpList_store_new6 rfl (.tmp 4) (.tmp 16) rfl R HW.out _ rfl rfl rfl ?_; refine Hid.out ?_)
  refine Lib.hid ?_
  have hg3 := heap_alloc_new w2 (.cells R.cells 26)
  have c2 : (w2.alloc (.cells R.cells 26)).cell? ⟨w2.heap.size, 2, none⟩ = some (.int .i64 (A : Int)) := by rw [hdr6_cell hg3 2, ← HL.out]; rfl
  have G3 := Lib.hid hg3
  have Z3 := Lib.hid ((Below.heap_alloc w2 (.cells R.cells 26) _ (Array.getElem?_eq_some_iff.1 G2.out).1).trans G2.out)
  have B3 := Lib.hid (B2.out.alloc B2.out.size (.cells R.cells 26))
  clear hg3 G2 B2
  generalize (w2.alloc (.cells R.cells 26)) = w3 at *
  by_cases hC : l.length < A + 40
  · go_wp2_with (refine wpList_store_hdr6 rfl (.tmp 2) (.tmp 23) rfl w.heap.size hdrZero6 zero6_wide _ rfl rfl Z3.out rfl ?_)
    exact bodyPost_ret (results_hdr62 Try.results8 _ _ w.heap.size hdrZero6 zero6_wide rfl (setRow_heap _ _ _ _ _ _ Z3.out)) rfl ⟨rfl, below_setRow B3.out (Nat.le_refl _) _⟩
  · go_wp2_with (first | (refine wpList_load_hdr6 rfl (.tmp 4) rfl w2.heap.size R HW.out rfl G3.out ?_) | (refine wpList_store_hdr6 rfl (.tmp 2) (.tmp 24) rfl w.heap.size R HW.out _ rfl rfl Z3.out rfl ?_))
    exact bodyPost_ret (results_hdr62 Try.results8 _ _ w.heap.size R HW.out rfl (setRow_heap _ _ _ _ _ _ Z3.out)) rfl ⟨rfl, below_setRow B3.out (Nat.le_refl _) _⟩

theorem parse6_any (a : Option Addr) (n cap : Nat) (l : List UInt8) (w : World) (hv : IsB w (.slice a n cap) l) (hlim : l.length ≤ 1000000) :
    Calls Try.prog 8 #[.slice a n cap] w fun r w' => r = .returned (.tuple #[(ip6H l).val, .int .i64 (ip6C l)]) ∧ Below w.heap.size w w' := by
  by_cases h40 : l.length < 40
  · have e1 : ip6C l = 10 := by unfold ip6C; rw [if_pos h40]
    have e2 : ip6H l = hdrZero6 := by unfold ip6H; rw [e1]; rfl
    rw [e1, e2]
    exact parse6_short a n cap l w hv h40
  · have ex : byteAt l 0 = ((l.getD 0 0).toNat : Int) := rfl
    have en := (ip6N_first l (by omega)).1
    by_cases hx : byteAt l 0 / 16 = 6
    · have e1 : ip6C l = if l.length < wordAt l 4 + 40 then 13 else 0 := by unfold ip6C; rw [if_neg h40, if_neg (by omega)]
      have e2 : ip6H l = if l.length < wordAt l 4 + 40 then hdrZero6 else ip6R l := by
        unfold ip6H
        rw [e1]
        by_cases hc : l.length < wordAt l 4 + 40
        · simp [hc]
        · simp [hc]
      rw [e1, e2]
      exact parse6_more a n cap l w hv (by omega) hlim hx
    · have e1 : ip6C l = 12 := by unfold ip6C; rw [if_neg h40, if_pos (by omega)]
      have e2 : ip6H l = hdrZero6 := by unfold ip6H; rw [e1]; rfl
      rw [e1, e2]
      exact parse6_version a n cap l w hv (by omega) hx

set_option maxRecDepth 100000 in
set_option maxHeartbeats 2000000 in
theorem body6_any (a : Option Addr) (n cap : Nat) (l : List UInt8) (w : World) (hv : IsB w (.slice a n cap) l) (hlim : l.length ≤ 1000000) :
    Calls Try.prog 10 #[.slice a n cap] w fun r w' => (∃ a' n' cap', r = .returned (.slice a' n' cap') ∧ IsB w' (.slice a' n' cap') (ip6B l)) ∧ Below w.heap.size w w' := by
  have HP := Lib.hid (parse6_any a n cap l w hv hlim)
  by_cases h0 : ip6C l = 0
  · obtain ⟨e1, e2, e3, f⟩ := ip6_ok h0
    have HC := Lib.hid (fun W (hb : Below w.heap.size w W) => cut_any a n cap l 40 (wordAt l 4 : Int) W (hv.below hb) hlim)
    have eB : cutL l 40 (wordAt l 4 : Int) = ip6B l := by
      unfold cutL ip6B
      rw [if_pos h0, if_pos (show inC l 40 (wordAt l 4 : Int) = true from decide_eq_true ⟨by omega, by omega, by omega⟩)]
      rfl
    rw [eB] at HC
    have HL : Hid ((ip6R l).len = (wordAt l 4 : Int)) := rfl
    have HW := Lib.hid f
    rw [h0, e1] at HP
    clear hv h0 e1 eB f
    generalize ip6R l = R at *
    generalize ip6B l = B at *
    generalize wordAt l 4 = A at *
    go_enter Try.func10, Try.ntmps10
    go_wp2_with (go_at_call 8; refine HP.out.mono ?_; rintro e w2 ⟨rfl, b2⟩; refine Hid.out ?_)
    refine Lib.hid ?_
    have c2 : (w2.alloc (.cells R.cells 26)).cell? ⟨w2.heap.size, 2, none⟩ = some (.int .i64 (A : Int)) := by rw [hdr6_cell (heap_alloc_new w2 _) 2, ← HL.out]; rfl
    have B3 := Lib.hid (b2.alloc b2.size (.cells R.cells 26))
    clear b2
    go_wp2_with (first | (refine wpList_store_new6 rfl (.tmp 3) (.tmp 10) rfl R HW.out _ rfl rfl rfl ?_) | (go_at_call 19; refine (HC.out _ B3.out).mono ?_; rintro e w4 ⟨⟨a4, n4, k4, rfl, i4⟩, b4⟩; refine Hid.out ?_))
    refine Lib.hid ?_
    go_wp2
    go_ret
    exact ⟨⟨_, _, _, rfl, i4⟩, below_up B3.out b4 B3.out.size⟩
  · have eB : ip6B l = [] := by unfold ip6B; rw [if_neg h0]
    rw [eB]
    have HW := Lib.hid (ip6H_wide l)
    clear hv eB
    generalize ip6H l = R at *
    generalize ip6C l = C at *
    go_enter Try.func10, Try.ntmps10
    go_wp2_with (go_at_call 8; refine HP.out.mono ?_; rintro e w2 ⟨rfl, b2⟩; refine Hid.out ?_)
    refine Lib.hid ?_
    go_wp2_with (refine wpList_store_new6 rfl (.tmp 3) (.tmp 10) rfl R HW.out _ rfl rfl rfl ?_)
    go_ret
    exact ⟨⟨_, _, _, rfl, IsB.nil _⟩, b2.alloc b2.size _⟩

theorem put_ttl6 (l : List UInt8) (t : UInt8) (h : 8 ≤ l.length) : inP l 7 1 t.toNat = true ∧ putL l 7 1 t.toNat = ttl6 l t := by
  have ht := UInt8.toNat_lt t
  have e1 : inP l 7 1 t.toNat = true := by
    have e2 : inG l 7 1 = true := decide_eq_true ⟨by omega, by omega, by omega, by omega⟩
    have e3 : fitB t.toNat 1 = true := decide_eq_true (by show t.toNat < 256 ^ 1; omega)
    unfold inP; rw [e2, e3]; rfl
  refine ⟨e1, ?_⟩
  unfold putL ttl6
  rw [e1, if_pos rfl]
  show l.take (7 + (1 - 1)) ++ (lowB 1 t.toNat ++ l.drop 8) = _
  have e4 : lowB 1 t.toNat = [t] := by
    show [UInt8.ofNat (t.toNat / 256 ^ 0 % 256)] = [t]
    congr 1
    apply UInt8.toNat.inj
    rw [Nat.pow_zero, Nat.div_one, UInt8.toNat_ofNat_of_lt' (show t.toNat % 256 < 256 by omega)]
    omega
  rw [e4]
  rfl
set_option maxRecDepth 100000 in
set_option maxHeartbeats 2000000 in
theorem ttl6_any (a : Option Addr) (n cap : Nat) (l : List UInt8) (q : Int) (t : UInt8) (w : World) (hq : q = (t.toNat : Int)) (hv : IsB w (.slice a n cap) l) (hlim : l.length ≤ 1000000) :
    Calls Try.prog 14 #[.slice a n cap, .int .u8 q] w fun r w' => (∃ a' n' cap', r = .returned (.tuple #[.slice a' n' cap', .int .i64 (ip6C l)]) ∧ IsB w' (.slice a' n' cap') (ttlA6 l t)) ∧ Below w.heap.size w w' := by
  have HP := Lib.hid (parse6_any a n cap l w hv hlim)
  have HW := Lib.hid (ip6H_wide l)
  by_cases h0 : ip6C l = 0
  · obtain ⟨e1, e2, e3, f⟩ := ip6_ok h0
    have ht := UInt8.toNat_lt t
    have HU := Lib.hid (fun W (hb : Below w.heap.size w W) => put_any a n cap l 7 1 t.toNat W (hv.below hb) hlim (by omega))
    rw [(put_ttl6 l t (by omega)).1, (put_ttl6 l t (by omega)).2] at HU
    have eA : ttlA6 l t = ttl6 l t := by unfold ttlA6; rw [if_pos h0]
    rw [← eA, ← hq] at HU
    have q0 : 0 ≤ q := by omega
    have q1 : q ≤ 255 := by omega
    rw [h0] at HP ⊢
    clear hv h0 e1 eA f hq ht
    generalize ttlA6 l t = AN at *
    generalize ip6H l = R at *
    go_enter Try.func14, Try.ntmps14
    go_wp2_with (go_at_call 8; refine HP.out.mono ?_; rintro e w2 ⟨rfl, b2⟩; refine Hid.out ?_)
    refine Lib.hid ?_
    have B3 := Lib.hid (b2.alloc b2.size (.cells R.cells 26))
    clear b2
    go_wp2_with (first | (refine wpList_store_new6 rfl (.tmp 6) (.tmp 13) rfl R HW.out _ rfl rfl rfl ?_) | (go_at_call 20; refine (HU.out _ B3.out).mono ?_; rintro e w4 ⟨⟨a4, n4, k4, rfl, i4⟩, b4⟩; refine Hid.out ?_))
    refine Lib.hid ?_
    go_wp2
    go_ret2
    exact ⟨⟨_, _, _, rfl, i4⟩, below_up B3.out b4 B3.out.size⟩
  · have eA : ttlA6 l t = [] := by unfold ttlA6; rw [if_neg h0]
    rw [eA]
    clear hv eA
    generalize ip6H l = R at *
    generalize ip6C l = C at *
    go_enter Try.func14, Try.ntmps14
    go_wp2_with (go_at_call 8; refine HP.out.mono ?_; rintro e w2 ⟨rfl, b2⟩; refine Hid.out ?_)
    refine Lib.hid ?_
    go_wp2_with (refine wpList_store_new6 rfl (.tmp 6) (.tmp 13) rfl R HW.out _ rfl rfl rfl ?_)
    go_ret2
    exact ⟨⟨_, _, _, rfl, IsB.nil _⟩, b2.alloc b2.size _⟩
end Go.Proofs.Ytemocbcibnccpaa

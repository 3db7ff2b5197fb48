/- The document's table of stage 9: Put and Delete of anything; Do; Look. -/
import Derived.Test.YtecefdocemkliaaR9d
namespace Go.Proofs.Ytecefdocemkliaa
open Go Go.RowKit

def rdelE (is six : Bool) (L : List (Pfx × Int)) (p : Pfx) : Int := if (is && (chkP p && (p.six == six))) = true then (if isT cmpP p L = false then 31 else 0) else 1
def rdelL (is six : Bool) (L : List (Pfx × Int)) (p : Pfx) : List (Pfx × Int) := if rdelE is six L p = 0 then delT cmpP p L else L
theorem qput_any (is six : Bool) (room : Int) (a : Option Addr) (n cap : Nat) (L : List (Pfx × Int)) (p : Pfx) (x : Int) (w : World) (hC : IsC itF 19 w (.slice a n cap) L) (hp : p.addr.length = 16) (hl : L.length ≤ 900000) :
    Calls Try.prog 17 #[tV is six room (.slice a n cap), p.val, .int .i64 x] w (RefT w a L is six room (rputL is six room L p x) (rputE is six room L p)) := by
  unfold rputL rputE
  cases hr : (is && (chkP p && (p.six == six))) with
  | false =>
    rw [if_neg (show ¬ (false = true) by simp), if_neg (show ¬ ((1 : Int) = 0) by omega)]
    exact qput_no is six room a n cap L p x w hC hp hr
  | true =>
    rw [if_pos rfl]
    by_cases hf : isT cmpP p L = false ∧ (L.length : Int) = room
    · rw [if_pos hf, if_neg (show ¬ ((30 : Int) = 0) by omega)]
      exact qput_full is six room a n cap L p x w hC hp hl hr hf.1 hf.2
    · rw [if_neg hf, if_pos rfl]
      exact qput_ok is six room a n cap L p x w hC hp hl hr hf
theorem qdel_any (is six : Bool) (room : Int) (a : Option Addr) (n cap : Nat) (L : List (Pfx × Int)) (p : Pfx) (w : World) (hC : IsC itF 19 w (.slice a n cap) L) (hp : p.addr.length = 16) (hl : L.length ≤ 900000) :
    Calls Try.prog 23 #[tV is six room (.slice a n cap), p.val] w (RefT w a L is six room (rdelL is six L p) (rdelE is six L p)) := by
  unfold rdelL rdelE
  cases hr : (is && (chkP p && (p.six == six))) with
  | false =>
    rw [if_neg (show ¬ (false = true) by simp), if_neg (show ¬ ((1 : Int) = 0) by omega)]
    exact qdel_no is six room a n cap L p w hC hp hr
  | true =>
    rw [if_pos rfl]
    cases hf : isT cmpP p L with
    | false =>
      rw [if_pos rfl, if_neg (show ¬ ((31 : Int) = 0) by omega)]
      exact qdel_none is six room a n cap L p w hC hp hl hr hf
    | true =>
      rw [if_neg (show ¬ (true = false) by simp), if_pos rfl]
      exact qdel_some is six room a n cap L p w hC hp hl hr hf
/-- One step of a script. -/
def doE (k : Int) (is six : Bool) (room : Int) (L : List (Pfx × Int)) (p : Pfx) : Int := if k = 0 then rputE is six room L p else if k = 1 then rdelE is six L p else 0
def doL (k : Int) (is six : Bool) (room : Int) (L : List (Pfx × Int)) (p : Pfx) (x : Int) : List (Pfx × Int) := if k = 0 then rputL is six room L p x else if k = 1 then rdelL is six L p else L
theorem isC_row {W : World} {a : Option Addr} {n cap : Nat} {L : List (Pfx × Int)} (h : IsC itF 19 W (.slice a n cap) L) (g : Nat) (cs : Array Value) (hg : 0 < L.length → ∀ x, a = some x → x.block ≠ g) : IsC itF 19 (W.setRow g cs) (.slice a n cap) L := by
  obtain ⟨h0, a', cap', e, h1, h2, h3⟩ := h
  simp only [Value.slice.injEq] at e
  obtain ⟨rfl, rfl, rfl⟩ := e
  refine ⟨h0, _, _, rfl, h1, h2, fun hp => ?_⟩
  obtain ⟨b, k, rfl, hlt, hc⟩ := h3 hp
  refine ⟨b, k, rfl, by simpa using hlt, fun j v hj => ?_⟩
  have := setRow_other W g b cs (hg hp _ rfl)
  have e2 : (W.setRow g cs).cell? ⟨b, k + j, none⟩ = W.cell? ⟨b, k + j, none⟩ := by
    unfold World.cell?
    rw [this]
  exact e2.trans (hc j v hj)
set_option maxRecDepth 100000 in
set_option maxHeartbeats 8000000 in
theorem qdo (k : Int) (is six : Bool) (room : Int) (a : Option Addr) (n cap : Nat) (L : List (Pfx × Int)) (p : Pfx) (x : Int) (w : World) (hC : IsC itF 19 w (.slice a n cap) L) (hp : p.addr.length = 16) (hl : L.length ≤ 900000) :
    Calls Try.prog 10 #[tV is six room (.slice a n cap), .int .i64 k, p.val, .int .i64 x] w (RefT w a L is six room (doL k is six room L p x) (doE k is six room L p)) := by
  have HZ := Lib.hid (putB_new w (tR is six room (.slice a n cap)) p)
  have ez : (#[.bool false, .bool false, .int .i64 0, .slice none 0 0] : Array Value) = (tR false false 0 (.slice none 0 0)).toArray := rfl
  have HP := Lib.hid hp
  have HC := Lib.hid hC
  have R1 := Lib.hid (rangeAll HZ.out.1)
  have R2 := Lib.hid (rangeAll HZ.out.2.1)
  have HPU := Lib.hid (fun W (hW : Below w.heap.size w W) => qput_any is six room a n cap L p x W (hC.below hW) hp hl)
  have HDE := Lib.hid (fun W (hW : Below w.heap.size w W) => qdel_any is six room a n cap L p W (hC.below hW) hp hl)
  -- what is answered is kept in the third box
  have hend : ∀ (W w1 : World) (a1 : Option Addr) (n1 cap1 : Nat) (L1 : List (Pfx × Int)) (cs : Array Value), w.heap.size + 1 + 1 < W.heap.size → IsC itF 19 w1 (.slice a1 n1 cap1) L1 → ((a1 = a ∧ L1 = L) ∨ ∀ x, a1 = some x → W.heap.size ≤ x.block) → Below w.heap.size w w1 →
      IsC itF 19 (w1.setRow (w.heap.size + 1 + 1) cs) (.slice a1 n1 cap1) L1 ∧ ((a1 = a ∧ L1 = L) ∨ ∀ x, a1 = some x → w.heap.size ≤ x.block) ∧ Below w.heap.size w (w1.setRow (w.heap.size + 1 + 1) cs) := by
    intro W w1 a1 n1 cap1 L1 cs hlt h1 h2 h3
    refine ⟨isC_row h1 _ cs (fun h0 y e => ?_), ?_, below_row h3 (by omega) cs⟩
    · rcases h2 with ⟨rfl, rfl⟩ | h2
      · obtain ⟨_, _, _, h4⟩ := hC.shape
        obtain ⟨b, k, e2, hb, _⟩ := h4 h0
        rw [e2] at e
        cases e
        simp only
        omega
      · have := h2 y e
        omega
    · rcases h2 with h2 | h2
      · exact .inl h2
      · exact .inr (fun y e => by have := h2 y e; omega)
  have HE := Lib.hid hend
  have HSZ := Lib.hid HZ.out.2.2.1.lt
  rw [show tV is six room (.slice a n cap) = .agg (tR is six room (.slice a n cap)).toArray from rfl, show p.val = .agg p.row.toArray from rfl]
  clear hp hC hend
  unfold doL doE
  by_cases hk0 : k = 0
  · subst hk0
    rw [if_pos rfl, if_pos rfl]
    unfold RefT
    generalize rputL is six room L p x = L1 at *
    generalize rputE is six room L p = c1 at *
    go_enter Try.func10, Try.ntmps10
    go_wp2_with (first
      | (refine plV rfl (tV is six room (.slice a n cap)) (exec_load_any _ (.tmp 4) rfl w.heap.size 0 (tR is six room (.slice a n cap)) _ rfl R1.out Try.underlying28 rfl t_info) ?_)
      | (refine plV rfl p.val (exec_load_any _ (.tmp 6) rfl (w.heap.size + 1) 0 p.row _ rfl R2.out Try.underlying32 rfl (pf_infoC HP.out)) ?_)
      | (go_at_call 17; refine (HPU.out _ HZ.out.2.2.2).mono ?_; rintro e w1 ⟨⟨a1, n1, cap1, rfl, l1, d1⟩, b1⟩; refine Hid.out ?_))
    refine Lib.hid ?_
    have HZ1 := Lib.hid (HZ.out.up b1)
    have HL1 := Lib.hid l1
    have HD1 := Lib.hid d1
    clear l1 d1 b1 R1 R2 HPU HDE
    rw [show tV is six room (.slice a1 n1 cap1) = .agg (tR is six room (.slice a1 n1 cap1)).toArray from rfl]
    go_wp2_with (first
      | (refine wpList_store_bx rfl 28 (.tmp 8) (.tmp 17) rfl (w.heap.size + 1 + 1) (tR is six room (.slice a1 n1 cap1)) (tR false false 0 (.slice none 0 0)) rfl rfl HZ1.out.2.2.1 t_info rfl (t_one _ _ _ _ rfl) ?_; refine Hid.out ?_))
    refine Lib.hid ?_
    go_wp2
    have he := HE.out _ _ a1 n1 cap1 L1 (tR is six room (.slice a1 n1 cap1)).toArray HSZ.out HL1.out HD1.out HZ1.out.2.2.2
    exact bodyPost_ret (results_t2 Try.results10 _ _ (w.heap.size + 1 + 1) (tR is six room (.slice a1 n1 cap1)) rfl rfl (HZ1.out.2.2.1.row _)) rfl ⟨⟨a1, n1, cap1, rfl, he.1, he.2.1⟩, he.2.2⟩
  · rw [if_neg hk0, if_neg hk0]
    have hq0 : (k == 0) = false := beq_eq_false_iff_ne.2 hk0
    by_cases hk1 : k = 1
    · subst hk1
      rw [if_pos rfl, if_pos rfl]
      unfold RefT
      generalize rdelL is six L p = L1 at *
      generalize rdelE is six L p = c1 at *
      go_enter Try.func10, Try.ntmps10
      go_wp2_with (first
        | (refine plV rfl (tV is six room (.slice a n cap)) (exec_load_any _ (.tmp 4) rfl w.heap.size 0 (tR is six room (.slice a n cap)) _ rfl R1.out Try.underlying28 rfl t_info) ?_)
        | (refine plV rfl p.val (exec_load_any _ (.tmp 6) rfl (w.heap.size + 1) 0 p.row _ rfl R2.out Try.underlying32 rfl (pf_infoC HP.out)) ?_)
        | (go_at_call 23; refine (HDE.out _ HZ.out.2.2.2).mono ?_; rintro e w1 ⟨⟨a1, n1, cap1, rfl, l1, d1⟩, b1⟩; refine Hid.out ?_))
      refine Lib.hid ?_
      have HZ1 := Lib.hid (HZ.out.up b1)
      have HL1 := Lib.hid l1
      have HD1 := Lib.hid d1
      clear l1 d1 b1 R1 R2 HPU HDE
      rw [show tV is six room (.slice a1 n1 cap1) = .agg (tR is six room (.slice a1 n1 cap1)).toArray from rfl]
      go_wp2_with (first
        | (refine wpList_store_bx rfl 28 (.tmp 8) (.tmp 24) rfl (w.heap.size + 1 + 1) (tR is six room (.slice a1 n1 cap1)) (tR false false 0 (.slice none 0 0)) rfl rfl HZ1.out.2.2.1 t_info rfl (t_one _ _ _ _ rfl) ?_; refine Hid.out ?_))
      refine Lib.hid ?_
      go_wp2
      have he := HE.out _ _ a1 n1 cap1 L1 (tR is six room (.slice a1 n1 cap1)).toArray HSZ.out HL1.out HD1.out HZ1.out.2.2.2
      exact bodyPost_ret (results_t2 Try.results10 _ _ (w.heap.size + 1 + 1) (tR is six room (.slice a1 n1 cap1)) rfl rfl (HZ1.out.2.2.1.row _)) rfl ⟨⟨a1, n1, cap1, rfl, he.1, he.2.1⟩, he.2.2⟩
    · rw [if_neg hk1, if_neg hk1]
      have hq1 : (k == 1) = false := beq_eq_false_iff_ne.2 hk1
      unfold RefT
      go_enter Try.func10, Try.ntmps10
      go_wp2_with (first
        | (refine plV rfl (tV is six room (.slice a n cap)) (exec_load_any _ (.tmp 4) rfl w.heap.size 0 (tR is six room (.slice a n cap)) _ rfl R1.out Try.underlying28 rfl t_info) ?_)
        | (refine wpList_store_bx rfl 28 (.tmp 8) (.tmp 26) rfl (w.heap.size + 1 + 1) (tR is six room (.slice a n cap)) (tR false false 0 (.slice none 0 0)) rfl rfl HZ.out.2.2.1 t_info rfl (t_one _ _ _ _ rfl) ?_; refine Hid.out ?_))
      refine Lib.hid ?_
      go_wp2
      have he := HE.out _ _ a n cap L (tR is six room (.slice a n cap)).toArray HSZ.out (HC.out.below HZ.out.2.2.2) (.inl ⟨rfl, rfl⟩) HZ.out.2.2.2
      exact bodyPost_ret (results_t2 Try.results10 _ _ (w.heap.size + 1 + 1) (tR is six room (.slice a n cap)) rfl rfl (HZ.out.2.2.1.row _)) rfl ⟨⟨a, n, cap, rfl, he.1, .inl ⟨rfl, by trivial⟩⟩, he.2.2⟩
end Go.Proofs.Ytecefdocemkliaa

/- withGroup of package colon. Proved: what it returns. -/
import Derived.Test.YteomoipbjkafgaaDoorCol7
namespace Go.Proofs.YteomoipbjkafgaaDoor
open Go Go.RowKit

theorem isI_built (w : World) (l : List Int) (cs : Array Value) (hcs : cs = (intVals l).toArray) (hm : l.length ≤ 1000) :
    IsI (w.alloc (.cells cs 3)) (.slice (some ⟨w.heap.size, 0, none⟩) l.length l.length) l := by
  subst hcs
  have h : IntT 3 (w.alloc (.cells (intVals l).toArray 3)) w.heap.size l := intT_new w l
  refine ⟨some ⟨w.heap.size, 0, none⟩, l.length, rfl, Nat.le_refl _, by unfold maxLen; omega, fun _ => ⟨w.heap.size, 0, rfl, h.lt, fun i hi => ?_⟩⟩
  rw [Nat.zero_add]
  exact h.cell i hi
theorem withO_length (g ns : List Nat) : (rdV (withO g ns)).length = 9 := by
  unfold withO
  split
  · rename_i h
    exact rowI_length _ (by rw [List.length_append]; exact h)
  · rfl
/-- With the group of a text behind. -/
def withG (g : List Nat) (p : List UInt8) : Option (List Nat) :=
  match grpOf p with
  | some n => withO g [n]
  | none => none
theorem withG_some {g : List Nat} {p : List UInt8} (h : (grpOf p).isSome = true) : withG g p = withO g [grpV p] := by
  obtain ⟨n, hn⟩ := Option.isSome_iff_exists.1 h
  unfold withG grpV
  rw [hn]
  rfl
theorem withG_none {g : List Nat} {p : List UInt8} (h : (grpOf p).isSome = false) : withG g p = none := by
  unfold withG
  cases hg : grpOf p with
  | none => rfl
  | some n => rw [hg] at h; cases h
set_option maxRecDepth 100000 in
set_option maxHeartbeats 4000000 in
theorem withGroup_any (g : List Nat) (s : ByteArray) (w : World) (hg : g.length ≤ 8) (hs : s.size ≤ 1000000) :
    Calls Tryd.prog 36 #[intV (rowI g), .string s] w fun r w' => r = .returned (.tuple #[intV (rdV (withG g s.data.toList)), .bool (withG g s.data.toList).isSome]) ∧ Below w.heap.size w w' := by
  generalize hW : ((w.alloc (.cells (intVals (rowI g)).toArray 47)).alloc (.cells (intVals rowI0).toArray 47)) = W
  have z0 : IntT 47 W w.heap.size (rowI g) := by rw [← hW]; exact (intT_new w _).allocO _
  have z1 : IntT 47 W (w.heap.size + 1) rowI0 := by
    have := intT_new (t := 47) (w.alloc (.cells (intVals (rowI g)).toArray 47)) rowI0
    rw [World.size_alloc, hW] at this
    exact this
  have zb : Below w.heap.size w W := by rw [← hW]; exact ((Below.refl _ _).alloc (Nat.le_refl _) _).alloc (by simp) _
  have Z := Lib.hid (And.intro z0 (And.intro z1 zb))
  have HRL := Lib.hid (rowI_length g hg)
  rw [← hW, ← zero9] at Z
  clear hW z0 z1 zb
  clear W
  have hG := fun W => group_any s W hs
  rw [show intV (rowI g) = .agg (intVals (rowI g)).toArray from rfl]
  cases hq : (grpOf s.data.toList).isSome with
  | false =>
    rw [withG_none hq]
    have hv : grpV s.data.toList = 0 := by
      unfold grpV
      cases h : grpOf s.data.toList with
      | none => rfl
      | some n => rw [h] at hq; cases hq
    rw [hq, hv] at hG
    have HG := Lib.hid hG
    clear hG hv hq
    go_enter Tryd.func36, Tryd.ntmps36
    go_wp2_with (first | (go_at_call 43; refine (HG.out _).mono ?_; rintro e w1 ⟨rfl, b1⟩) | (refine wpList_store_intT rfl (.tmp 4) (.tmp 15) rfl (w.heap.size + 1) rowI0 row9 rowI0 rfl rfl (Z.out.2.1.up b1) rfl ?_))
    exact bodyPost_ret (results_intT2 Tryd.results36 _ _ (w.heap.size + 1) rowI0 row9 rfl (intT_setRow (Z.out.2.1.up b1) _)) rfl ⟨rfl, below_setRow (below_up Z.out.2.2 b1 Z.out.2.2.size) (by omega) _⟩
  | true =>
    rw [withG_some hq]
    rw [hq] at hG
    have HG := Lib.hid hG
    clear hG hq
    generalize grpV s.data.toList = n at *
    have HWL := Lib.hid (withO_length g [n])
    have HWT := Lib.hid (fun (W : World) (a : Option Addr) (k cap : Nat) (h : IsI W (.slice a k cap) (natsI [n])) => with_any g [n] a k cap W hg h (by simp) (by simp))
    generalize rdV (withO g [n]) = R at *
    generalize (withO g [n]).isSome = b at *
    go_enter Tryd.func36, Tryd.ntmps36
    go_wp2_with (first | (go_at_call 43; refine (HG.out _).mono ?_; rintro e w1 ⟨rfl, b1⟩) | (refine wpList_load_intT rfl (.tmp 2) rfl w.heap.size (rowI g) (by rw [HRL.out]; exact row9) rfl (Z.out.1.up b1) ?_) | (go_at_call 38; refine (HWT.out _ _ _ _ (isI_built w1 (natsI [n]) _ rfl (by simp [natsI]))).mono ?_; rintro e w2 ⟨rfl, b2⟩; refine Hid.out ?_))
    refine Lib.hid ?_
    have hw2 : IntT 47 w2 (w.heap.size + 1) rowI0 ∧ Below w.heap.size w w2 := by
      have h1 := below_up Z.out.2.2 b1 Z.out.2.2.size
      have h2 := h1.alloc h1.size (.cells #[.int .i64 (n : Int)] 3)
      exact ⟨((Z.out.2.1.up b1).allocO _).up b2, below_up h2 b2 h2.size⟩
    have HW2 := Lib.hid hw2
    clear hw2 b1 b2 Z
    go_wp2_with (refine wpList_store_intT rfl (.tmp 4) (.tmp 20) rfl (w.heap.size + 1) R (by rw [HWL.out]; exact row9) rowI0 rfl rfl HW2.out.1 (by rw [HWL.out]; rfl) ?_)
    exact bodyPost_ret (results_intT2 Tryd.results36 _ _ (w.heap.size + 1) R (by rw [HWL.out]; exact row9) rfl (intT_setRow HW2.out.1 _)) rfl ⟨rfl, below_setRow HW2.out.2 (by omega) _⟩
end Go.Proofs.YteomoipbjkafgaaDoor

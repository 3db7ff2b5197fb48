/- Package ip4: Put. Proved: what it returns. -/
import Derived.Test.YtchkbdgoghcgcaaIpH
namespace Go.Proofs.Ytchkbdgoghcgcaa
open Go Go.RowKit

set_option maxRecDepth 100000 in
set_option maxHeartbeats 2000000 in
theorem put4_arg (h : Hdr) (b : Value) (w : World) (hf : ¬ h.fit) :
    Calls Try.prog 14 #[h.val, b] w fun r w' => r = .returned (.tuple #[.slice none 0 0, .int .i64 1]) ∧ Below w.heap.size w w' := by
  have hsz : (⟨h.opt.toArray⟩ : ByteArray).size = h.opt.length := by simp [ByteArray.size]
  have c10 : (w.alloc (.cells h.cells 27)).cell? ⟨w.heap.size, 16, none⟩ = some (.string ⟨h.opt.toArray⟩) := hdr_cell (heap_alloc_new w _) 16
  have c5 : (w.alloc (.cells h.cells 27)).cell? ⟨w.heap.size, 5, none⟩ = some (.int .i64 h.off) := hdr_cell (heap_alloc_new w _) 5
  rw [show h.val = .agg h.cells from rfl]
  have hc : ¬ (h.opt.length : Int) % 4 = 0 ∨ ((h.opt.length : Int) % 4 = 0 ∧ 40 < (h.opt.length : Int)) ∨ ((h.opt.length : Int) % 4 = 0 ∧ (h.opt.length : Int) ≤ 40 ∧ h.off < 0) ∨ ((h.opt.length : Int) % 4 = 0 ∧ (h.opt.length : Int) ≤ 40 ∧ 0 ≤ h.off ∧ 8191 < h.off) := by
    refine Classical.byContradiction fun hn => hf ⟨?_, ?_, ?_, ?_⟩ <;> omega
  clear hf
  generalize h.opt.length = M at *
  generalize h.off = O at *
  rcases hc with h1 | ⟨h1, h2⟩ | ⟨h1, h2, h3⟩ | ⟨h1, h2, h3, h4⟩
  all_goals
    go_enter Try.func14, Try.ntmps14
    go_wp2
    go_ret2
    exact ⟨rfl, (Below.refl _ _).alloc (Nat.le_refl _) _⟩

theorem setLen_cells (h : Hdr) (L : Int) : h.cells.setIfInBounds 1 (.int .i64 L) = ({ h with len := L } : Hdr).cells := rfl

set_option maxRecDepth 100000 in
set_option maxHeartbeats 2000000 in
theorem put4_fit (h : Hdr) (a : Option Addr) (n cap : Nat) (body : List UInt8) (w : World) (f : h.fit) (hid : h.id ≤ 65535) (hv : IsB w (.slice a n cap) body) (hlim : body.length ≤ 500000) :
    Calls Try.prog 14 #[h.val, .slice a n cap] w fun r w' => (∃ a' n' cap', r = .returned (.tuple #[.slice a' n' cap', .int .i64 (if h.size + body.length ≤ 65535 then 0 else 13)]) ∧ IsB w' (.slice a' n' cap') (if h.size + body.length ≤ 65535 then pktL h body else [])) ∧ Below w.heap.size w w' := by
  obtain ⟨rfl, hv1, hv2, -⟩ := hv.cells
  have hs := size_le f
  have hsz : (⟨h.opt.toArray⟩ : ByteArray).size = h.opt.length := by simp [ByteArray.size]
  have c10 : (w.alloc (.cells h.cells 27)).cell? ⟨w.heap.size, 16, none⟩ = some (.string ⟨h.opt.toArray⟩) := hdr_cell (heap_alloc_new w _) 16
  have c5 : (w.alloc (.cells h.cells 27)).cell? ⟨w.heap.size, 5, none⟩ = some (.int .i64 h.off) := hdr_cell (heap_alloc_new w _) 5
  have HS := Lib.hid (fun W => size_any h W (by unfold Hdr.size at hs; omega))
  have HG := Lib.hid (heap_alloc_new w (.cells h.cells 27))
  have HH := Lib.hid (fun W (all : Nat) (ha : all ≤ 65535) => header_any { h with len := (all : Int) } W ⟨f.o1, f.o2, f.f0, f.f1⟩ hid all rfl ha)
  have HV := Lib.hid hv
  have f1 : (h.opt.length : Int) % 4 = 0 := by have := f.o2; omega
  have f2 : (h.opt.length : Int) ≤ 40 := by have := f.o1; omega
  have f3 := f.f0
  have f4 := f.f1
  have hpk : ∀ all : Nat, hdrL { h with len := (all : Int) } all = hdrL h all := fun _ => rfl
  have HPK : Hid (pktL h body = hdrL h (h.size + body.length) ++ body) := rfl
  have HSL := Lib.hid (setLen_cells h)
  have hc1 : h.cells[1]? = some (.int .i64 h.len) := rfl
  have HD := Lib.hid (hdrL_length h)
  rw [show h.val = .agg h.cells from rfl]
  generalize h.opt.length = M at *
  generalize hRC : (if h.size + body.length ≤ 65535 then (0 : Int) else 13) = RC
  generalize hRL : (if h.size + body.length ≤ 65535 then pktL h body else []) = RL
  have HRC := Lib.hid hRC
  have HRL := Lib.hid hRL
  clear f hv hRC hRL
  go_enter Try.func14, Try.ntmps14
  go_wp2_with (first | (refine wpList_load_hdr rfl (.tmp 2) rfl w.heap.size h rfl HG.out ?_) | (go_at_call 16; refine (HS.out _).mono ?_; rintro e w2 ⟨rfl, b2⟩; refine Hid.out ?_))
  refine Lib.hid ?_
  have hg2 : w2.heap[w.heap.size]? = some (.cells h.cells 27 (0, 0)) := (b2.block _ (by simp)).trans HG.out
  have hb2 : Below w.heap.size w w2 := below_up ((Below.refl _ _).alloc (Nat.le_refl _) _) b2 (by simp)
  have c1 : w2.cell? ⟨w.heap.size, 1, none⟩ = some (.int .i64 h.len) := (hdr_cell hg2 1).trans hc1
  have fz : w2.frozen? ⟨w.heap.size, 1, none⟩ = false := frozen_of_row w2 w.heap.size 1 _ _ hg2
  have HG3 : Hid (∀ L, (w2.setCell ⟨w.heap.size, 1, none⟩ (.int .i64 L)).heap[w.heap.size]? = some (.cells ({ h with len := L } : Hdr).cells 27 (0, 0))) := by
    intro L
    rw [heap_setCell_same w2 w.heap.size 1 _ _ _ hg2, HSL.out]
  have HB3 : Hid (∀ L, Below w.heap.size w (w2.setCell ⟨w.heap.size, 1, none⟩ (.int .i64 L))) := by
    intro L
    exact hb2.setCell (Nat.le_refl _) _
  have c3 : ∀ L, (w2.setCell ⟨w.heap.size, 1, none⟩ (.int .i64 L)).cell? ⟨w.heap.size, 1, none⟩ = some (.int .i64 L) := fun L => (hdr_cell (HG3.out L) 1).trans rfl
  clear b2 hb2 hg2 HG hc1 c10 c5
  generalize hZ : h.size = Z at *
  generalize hNb : body.length = N at *
  by_cases hN : Z + N ≤ 65535
  · have hN2 : (Z : Int) + (N : Int) ≤ 65535 := by omega
    have eC : RC = 0 := by rw [← HRC.out, if_pos hN]
    have eL : RL = hdrL h (Z + N) ++ body := by rw [← HRL.out, if_pos hN, HPK.out]
    have EC := Lib.hid eC
    have EL := Lib.hid eL
    clear eC eL
    have HH2 := Lib.hid (fun W => HH.out W (Z + N) hN)
    rw [hpk] at HH2
    rw [show ((Z + N : Nat) : Int) = (Z : Int) + (N : Int) by omega] at HH2
    go_wp2_with (first | (refine wpList_load_hdr rfl (.tmp 2) rfl w.heap.size { h with len := (Z : Int) + (N : Int) } rfl (HG3.out _) ?_) | (go_at_call 28; refine (HH2.out _).mono ?_; rintro e w4 ⟨⟨a4, n4, c4, rfl, i4⟩, b4⟩; refine Hid.out ?_))
    refine Lib.hid ?_
    have b4' := below_up (HB3.out _) b4 (HB3.out _).size
    have hlen : (hdrL h (Z + N)).length = Z := HD.out _
    have hrows := rows_two w4 w4.heap.size rfl _ _ _ _ i4 (HV.out.below b4')
    have HCc := Lib.hid (concat_any _ _ _ hrows (by simp [hlen]; omega))
    rw [show ([hdrL h (Z + N), body] : List (List UInt8)).flatten = hdrL h (Z + N) ++ body by simp] at HCc
    have B5 := Lib.hid (b4'.alloc b4'.size (.cells #[.slice a4 n4 c4, .slice a N cap] 22))
    clear b4 b4' hlen hrows i4
    go_wp2_with (go_at_call 27; refine HCc.out.mono ?_; rintro e w5 ⟨⟨a5, n5, c5, rfl, i5⟩, b5⟩)
    go_ret2
    exact ⟨⟨_, _, _, by rw [EC.out]; rfl, by rw [EL.out]; exact i5⟩, below_up B5.out b5 B5.out.size⟩
  · have eC : RC = 13 := by rw [← HRC.out, if_neg hN]
    have eL : RL = [] := by rw [← HRL.out, if_neg hN]
    have EC := Lib.hid eC
    have EL := Lib.hid eL
    clear eC eL
    have hN2 : 65535 < (Z : Int) + (N : Int) := by omega
    go_wp2
    go_ret2
    exact ⟨⟨_, _, _, by rw [EC.out]; rfl, by rw [EL.out]; exact IsB.nil _⟩, HB3.out _⟩

/-- Is the header one that may be put? -/
def Hdr.fitB (h : Hdr) : Bool := decide (h.opt.length ≤ 40 ∧ h.opt.length % 4 = 0 ∧ 0 ≤ h.off ∧ h.off ≤ 8191)
theorem Hdr.fit_iff (h : Hdr) : h.fitB = true ↔ h.fit := ⟨fun hb => have := of_decide_eq_true hb; ⟨this.1, this.2.1, this.2.2.1, this.2.2.2⟩, fun f => decide_eq_true ⟨f.o1, f.o2, f.f0, f.f1⟩⟩
def putC4 (h : Hdr) (n : Nat) : Int := if h.fitB then (if h.size + n ≤ 65535 then 0 else 13) else 1
def putP4 (h : Hdr) (body : List UInt8) : List UInt8 := if h.fitB then (if h.size + body.length ≤ 65535 then pktL h body else []) else []
theorem put4_any (h : Hdr) (a : Option Addr) (n cap : Nat) (body : List UInt8) (w : World) (hid : h.id ≤ 65535) (hv : IsB w (.slice a n cap) body) (hlim : body.length ≤ 500000) :
    Calls Try.prog 14 #[h.val, .slice a n cap] w fun r w' => (∃ a' n' cap', r = .returned (.tuple #[.slice a' n' cap', .int .i64 (putC4 h body.length)]) ∧ IsB w' (.slice a' n' cap') (putP4 h body)) ∧ Below w.heap.size w w' := by
  unfold putC4 putP4
  cases hf : h.fitB
  · simp only [Bool.false_eq_true, if_false]
    refine (put4_arg h _ w (fun f => by rw [(Hdr.fit_iff h).2 f] at hf; cases hf)).mono ?_
    rintro r w' ⟨rfl, hb⟩
    exact ⟨⟨_, _, _, rfl, IsB.nil _⟩, hb⟩
  · simp only [if_true]
    exact put4_fit h a n cap body w ((Hdr.fit_iff h).1 hf) hid hv hlim
end Go.Proofs.Ytchkbdgoghcgcaa

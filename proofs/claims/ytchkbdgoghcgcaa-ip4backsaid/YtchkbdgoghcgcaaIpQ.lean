/- Package ip4: what Put returns is a row of the call's own; what is told of a packet that was put. -/
import Derived.Test.YtchkbdgoghcgcaaIpP
import Derived.Test.YtchkbdgoghcgcaaIpT
import Derived.Test.YtchkbdgoghcgcaaCat2
namespace Go.Proofs.Ytchkbdgoghcgcaa
open Go Go.RowKit

set_option maxRecDepth 100000 in
set_option maxHeartbeats 2000000 in
theorem put4_own (h : Hdr) (a : Option Addr) (n cap : Nat) (body : List UInt8) (w : World) (f : h.fit) (hid : h.id ≤ 65535) (hv : IsB w (.slice a n cap) body) (hlim : body.length ≤ 500000) (hall : h.size + body.length ≤ 65535) :
    Calls Try.prog 14 #[h.val, .slice a n cap] w fun r w' => (∃ v, r = .returned (.tuple #[v, .int .i64 0]) ∧ w'.ownsRow w.heap.size 5 1 v (pktL h body).length (byteVals (pktL h body))) ∧ Below w.heap.size w w' := by
  obtain ⟨rfl, hv1, hv2, -⟩ := hv.cells
  have hs := size_le f
  have hsz : (⟨h.opt.toArray⟩ : ByteArray).size = h.opt.length := by simp [ByteArray.size]
  have c10 : (w.alloc (.cells h.cells 27)).cell? ⟨w.heap.size, 16, none⟩ = some (.string ⟨h.opt.toArray⟩) := hdr_cell (heap_alloc_new w _) 16
  have c5 : (w.alloc (.cells h.cells 27)).cell? ⟨w.heap.size, 5, none⟩ = some (.int .i64 h.off) := hdr_cell (heap_alloc_new w _) 5
  have HS := Lib.hid (fun W => size_any h W (by unfold Hdr.size at hs; omega))
  have HG := Lib.hid (heap_alloc_new w (.cells h.cells 27))
  have HH := Lib.hid (fun W (all : Nat) (ha : all ≤ 65535) => header_any { h with len := (all : Int) } W ⟨f.o1, f.o2, f.f0, f.f1⟩ hid all rfl ha)
  have HV := Lib.hid hv
  have f1 : (h.opt.length : Int) % 4 = 0 := by have := f.o2; omega
  have f2 : (h.opt.length : Int) ≤ 40 := by have := f.o1; omega
  have f3 := f.f0
  have f4 := f.f1
  have hpk : ∀ all : Nat, hdrL { h with len := (all : Int) } all = hdrL h all := fun _ => rfl
  have HPK : Hid (pktL h body = hdrL h (h.size + body.length) ++ body) := rfl
  have HSL := Lib.hid (setLen_cells h)
  have hc1 : h.cells[1]? = some (.int .i64 h.len) := rfl
  have HD := Lib.hid (hdrL_length h)
  rw [show h.val = .agg h.cells from rfl]
  generalize h.opt.length = M at *
  generalize hRL : pktL h body = RL at *
  have HRL := Lib.hid hRL
  clear f hv hRL
  go_enter Try.func14, Try.ntmps14
  go_wp2_with (first | (refine wpList_load_hdr rfl (.tmp 2) rfl w.heap.size h rfl HG.out ?_) | (go_at_call 16; refine (HS.out _).mono ?_; rintro e w2 ⟨rfl, b2⟩; refine Hid.out ?_))
  refine Lib.hid ?_
  have hg2 : w2.heap[w.heap.size]? = some (.cells h.cells 27 (0, 0)) := (b2.block _ (by simp)).trans HG.out
  have hb2 : Below w.heap.size w w2 := below_up ((Below.refl _ _).alloc (Nat.le_refl _) _) b2 (by simp)
  have c1 : w2.cell? ⟨w.heap.size, 1, none⟩ = some (.int .i64 h.len) := (hdr_cell hg2 1).trans hc1
  have fz : w2.frozen? ⟨w.heap.size, 1, none⟩ = false := frozen_of_row w2 w.heap.size 1 _ _ hg2
  have HG3 : Hid (∀ L, (w2.setCell ⟨w.heap.size, 1, none⟩ (.int .i64 L)).heap[w.heap.size]? = some (.cells ({ h with len := L } : Hdr).cells 27 (0, 0))) := by
    intro L
    rw [heap_setCell_same w2 w.heap.size 1 _ _ _ hg2, HSL.out]
  have HB3 : Hid (∀ L, Below w.heap.size w (w2.setCell ⟨w.heap.size, 1, none⟩ (.int .i64 L))) := by
    intro L
    exact hb2.setCell (Nat.le_refl _) _
  have c3 : ∀ L, (w2.setCell ⟨w.heap.size, 1, none⟩ (.int .i64 L)).cell? ⟨w.heap.size, 1, none⟩ = some (.int .i64 L) := fun L => (hdr_cell (HG3.out L) 1).trans rfl
  clear b2 hb2 hg2 HG hc1 c10 c5
  generalize hZ : h.size = Z at *
  generalize hNb : body.length = N at *
  have hN : Z + N ≤ 65535 := hall
  have hN2 : (Z : Int) + (N : Int) ≤ 65535 := by omega
  have eL : RL = hdrL h (Z + N) ++ body := HPK.out
  have EL := Lib.hid eL
  clear eL
  have HH2 := Lib.hid (fun W => HH.out W (Z + N) hN)
  rw [hpk] at HH2
  rw [show ((Z + N : Nat) : Int) = (Z : Int) + (N : Int) by omega] at HH2
  go_wp2_with (first | (refine wpList_load_hdr rfl (.tmp 2) rfl w.heap.size { h with len := (Z : Int) + (N : Int) } rfl (HG3.out _) ?_) | (go_at_call 28; refine (HH2.out _).mono ?_; rintro e w4 ⟨⟨a4, n4, c4, rfl, i4⟩, b4⟩; refine Hid.out ?_))
  refine Lib.hid ?_
  have b4' := below_up (HB3.out _) b4 (HB3.out _).size
  have hlen : (hdrL h (Z + N)).length = Z := HD.out _
  have hrows := rows_two w4 w4.heap.size rfl _ _ _ _ i4 (HV.out.below b4')
  have HCc := Lib.hid (concat_own _ _ _ hrows (by simp [hlen]; omega))
  rw [show ([hdrL h (Z + N), body] : List (List UInt8)).flatten = hdrL h (Z + N) ++ body by simp] at HCc
  have B5 := Lib.hid (b4'.alloc b4'.size (.cells #[.slice a4 n4 c4, .slice a N cap] 22))
  clear b4 b4' hlen hrows i4
  go_wp2_with (go_at_call 27; refine HCc.out.mono ?_; rintro e w5 ⟨⟨v5, rfl, i5⟩, b5⟩)
  go_ret2
  refine ⟨⟨_, rfl, ?_⟩, below_up B5.out b5 B5.out.size⟩
  rw [EL.out]
  exact own_mono i5 B5.out.size

theorem pkt_told {h : Hdr} (f : h.fit) (hid : h.id ≤ 65535) (body m : List UInt8) (ha : h.size + body.length ≤ 65535) :
    ip4C (pktL h body ++ m) = 0 ∧ ip4H (pktL h body ++ m) = { h with len := ((h.size + body.length : Nat) : Int) } ∧ ip4B (pktL h body ++ m) = body ∧ ∀ t, ttlA (pktL h body ++ m) t = pktL { h with ttl := t } body ++ m := by
  have h1 := ip4_put f hid (h.size + body.length) ha (by omega) (body ++ m) (by simp)
  rw [← List.append_assoc] at h1
  change ip4C (pktL h body ++ m) = 0 ∧ ip4R (pktL h body ++ m) = _ ∧ _ at h1
  refine ⟨h1.1, by unfold ip4H; rw [if_pos h1.1]; exact h1.2.1, ip4_body f hid body m ha, fun t => ?_⟩
  unfold ttlA
  rw [if_pos h1.1]
  have := ttl_put f (h.size + body.length) (body ++ m) t
  rw [← List.append_assoc, ← List.append_assoc] at this
  exact this
theorem putC4_cases (h : Hdr) (n : Nat) : (putC4 h n = 0 ∧ h.fit ∧ h.size + n ≤ 65535) ∨ (putC4 h n ≠ 0 ∧ ∀ body : List UInt8, body.length = n → putP4 h body = []) := by
  unfold putC4 putP4
  cases hf : h.fitB
  · right
    simp
  · by_cases hn : h.size + n ≤ 65535
    · left
      simp [hn, (Hdr.fit_iff h).1 hf]
    · right
      simp only [if_true, hn, if_false]
      refine ⟨by decide, fun body hb => ?_⟩
      rw [hb, if_neg hn]
theorem putP4_fit {h : Hdr} {body : List UInt8} (f : h.fit) (hn : h.size + body.length ≤ 65535) : putP4 h body = pktL h body ∧ putC4 h body.length = 0 := by
  unfold putP4 putC4
  rw [(Hdr.fit_iff h).2 f]
  simp [hn]
end Go.Proofs.Ytchkbdgoghcgcaa

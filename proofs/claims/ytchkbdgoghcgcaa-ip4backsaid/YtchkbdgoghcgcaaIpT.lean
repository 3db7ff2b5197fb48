/- Package ip4: Ttl. Proved: what it returns, for every row of bytes (of at most a million). -/
import Derived.Test.YtchkbdgoghcgcaaIpB
namespace Go.Proofs.Ytchkbdgoghcgcaa
open Go Go.RowKit

/-- What Ttl answers. -/
def ttlA (l : List UInt8) (t : UInt8) : List UInt8 := if ip4C l = 0 then ttlL l t else []

theorem put_ttl (l : List UInt8) (t p : UInt8) (c : Nat) (h : 12 ≤ l.length) (hc : c ≤ 65535) :
    inP l 8 4 ((256 * t.toNat + p.toNat) * 65536 + c) = true ∧ putL l 8 4 ((256 * t.toNat + p.toNat) * 65536 + c) = l.take 8 ++ [t, p] ++ lowB 2 c ++ l.drop 12 := by
  have ht := UInt8.toNat_lt t
  have hp := UInt8.toNat_lt p
  have e1 : inP l 8 4 ((256 * t.toNat + p.toNat) * 65536 + c) = true := by
    have e2 : inG l 8 4 = true := decide_eq_true ⟨by omega, by omega, by omega, by omega⟩
    have e3 : fitB ((256 * t.toNat + p.toNat) * 65536 + c) 4 = true := decide_eq_true (by show _ < 256 ^ 4; omega)
    unfold inP; rw [e2, e3]; rfl
  refine ⟨e1, ?_⟩
  unfold putL
  rw [e1, if_pos rfl]
  show l.take (8 + (4 - 4)) ++ (lowB 4 _ ++ l.drop 12) = _
  have e4 : lowB 4 ((256 * t.toNat + p.toNat) * 65536 + c) = [t, p] ++ lowB 2 c := by
    show lowB 4 _ = [t, p, UInt8.ofNat (c / 256 ^ 1 % 256), UInt8.ofNat (c / 256 ^ 0 % 256)]
    simp only [lowB, Nat.pow_succ, Nat.pow_zero, Nat.one_mul, Nat.div_one]
    refine congr (congrArg List.cons ?_) (congr (congrArg List.cons ?_) (congr (congrArg List.cons ?_) (congr (congrArg List.cons ?_) rfl)))
    all_goals
      apply UInt8.toNat.inj
      simp only [UInt8.toNat_ofNat']
      omega
  rw [e4]
  simp

set_option maxRecDepth 100000 in
set_option maxHeartbeats 2000000 in
theorem ttl_any (a : Option Addr) (n cap : Nat) (l : List UInt8) (q : Int) (t : UInt8) (w : World) (hq : q = (t.toNat : Int)) (hv : IsB w (.slice a n cap) l) (hlim : l.length ≤ 1000000) :
    Calls Try.prog 18 #[.slice a n cap, .int .u8 q] w fun r w' => (∃ a' n' cap', r = .returned (.tuple #[.slice a' n' cap', .int .i64 (ip4C l)]) ∧ IsB w' (.slice a' n' cap') (ttlA l t)) ∧ Below w.heap.size w w' := by
  have HP := Lib.hid (parse_any a n cap l w hv hlim)
  have HV := Lib.hid hv
  by_cases h0 : ip4C l = 0
  · obtain ⟨e1, e2, e3, e4, e5, e6, e7⟩ := ip4_ok h0
    have HN10 := Lib.hid (fun W (hb : Below w.heap.size w W) => number_any4 a n cap l 10 W (hv.below hb) (by omega))
    have HN8 := Lib.hid (fun W (hb : Below w.heap.size w W) => number_any4 a n cap l 8 W (hv.below hb) (by omega))
    have ht := UInt8.toNat_lt t
    have hp := UInt8.toNat_lt (l.getD 9 0)
    have b10 := wordAt_le l 10
    have b8 := wordAt_le l 8
    have hT : turnN (wordAt l 10) (wordAt l 8) (256 * t.toNat + (l.getD 9 0).toNat) ≤ 65535 := by unfold turnN; omega
    have HT := Lib.hid (fun W => turn_any (wordAt l 10) (wordAt l 8) (256 * t.toNat + (l.getD 9 0).toNat) W b10 b8 (by omega))
    have HU := Lib.hid (fun W (hb : Below w.heap.size w W) => put_any a n cap l 8 4 ((256 * t.toNat + (l.getD 9 0).toNat) * 65536 + turnN (wordAt l 10) (wordAt l 8) (256 * t.toNat + (l.getD 9 0).toNat)) W (hv.below hb) hlim (by omega))
    have hpt := put_ttl l t (l.getD 9 0) _ (by omega) hT
    rw [hpt.1, hpt.2] at HU
    have eA : ttlA l t = l.take 8 ++ [t, l.getD 9 0] ++ lowB 2 (turnN (wordAt l 10) (wordAt l 8) (256 * t.toNat + (l.getD 9 0).toNat)) ++ l.drop 12 := by unfold ttlA ttlL; rw [if_pos h0]
    rw [← eA] at HU
    rw [h0, e1] at HP
    have hR : (ip4R l).cells[7]? = some (.int .u8 ((l.getD 9 0).toNat : Int)) := rfl
    have ew : bits .or .u16 (q * 256) ((l.getD 9 0).toNat : Int) = ((256 * t.toNat + (l.getD 9 0).toNat : Nat) : Int) := by
      rw [hq, u16_or _ _ (by omega) (by omega) (by omega) (by omega)]
      have e4 : ((t.toNat : Int) * 256).toNat = t.toNat * 256 := by omega
      rw [e4, Int.toNat_natCast, nat_join 8 _ _ (by omega) (by omega)]
      omega
    have HW := Lib.hid ew
    have hwb : 256 * t.toNat + (l.getD 9 0).toNat ≤ 65535 := by omega
    rw [h0]
    clear hv h0 e1 e7 hpt eA ew
    generalize 256 * t.toNat + (l.getD 9 0).toNat = WD at *
    generalize turnN (wordAt l 10) (wordAt l 8) WD = TN at *
    generalize ttlA l t = AN at *
    generalize wordAt l 10 = c10 at *
    generalize wordAt l 8 = c8 at *
    generalize hpp : ((l.getD 9 0).toNat : Int) = pp at *
    have hpp0 : 0 ≤ pp := by omega
    have hpp1 : pp ≤ 255 := by omega
    have hq0 : 0 ≤ q := by omega
    have hq1 : q ≤ 255 := by omega
    clear hpp hp ht hq
    generalize ip4R l = R at *
    go_enter Try.func18, Try.ntmps18
    go_wp2_with (go_at_call 10; refine HP.out.mono ?_; rintro e w2 ⟨rfl, b2⟩; refine Hid.out ?_)
    refine Lib.hid ?_
    have g3 := b2.alloc b2.size (.cells R.cells 27)
    have c7 : (w2.alloc (.cells R.cells 27)).cell? ⟨w2.heap.size, 7, none⟩ = some (.int .u8 pp) := (hdr_cell (heap_alloc_new w2 _) 7).trans hR
    have G3 := Lib.hid g3
    clear g3 b2 hR
    go_wp2_with (first | (refine wpList_store_new rfl (.tmp 6) (.tmp 15) rfl R _ rfl rfl rfl ?_) | (go_at_call 20; refine (HN10.out _ G3.out).mono ?_; rintro e w' ⟨rfl, rfl⟩; refine Hid.out ?_))
    refine Lib.hid ?_
    rw [HW.out]
    have HE : Hid (bits .or .u64 ((WD : Int) * 65536) (TN : Int) = ((WD * 65536 + TN : Nat) : Int)) := by
      show bits .or .u64 ((WD : Int) * 65536) (TN : Int) = ((WD * 65536 + TN : Nat) : Int)
      rw [u64_or _ _ (by omega) (by omega) (by omega) (by omega)]
      have e4 : ((WD : Int) * 65536).toNat = WD * 65536 := by omega
      rw [e4, Int.toNat_natCast, nat_join 16 _ _ (by omega) (by omega)]
    clear c7 HW
    generalize (w2.alloc (.cells R.cells 27)) = w3 at *
    go_wp2_with (go_at_call 20; refine (HN8.out _ G3.out).mono ?_; rintro e w' ⟨rfl, rfl⟩; refine Hid.out ?_)
    refine Lib.hid ?_
    go_wp2_with (first | (go_at_call 32; refine (HT.out _).mono ?_; rintro e w' ⟨rfl, rfl⟩) | (go_at_call 33; rw [HE.out]; refine (HU.out _ G3.out).mono ?_; rintro e w4 ⟨⟨a4, n4, c4, rfl, i4⟩, b4⟩))
    go_ret2
    exact ⟨⟨_, _, _, rfl, i4⟩, below_up G3.out b4 G3.out.size⟩
  · have eA : ttlA l t = [] := by unfold ttlA; rw [if_neg h0]
    rw [eA]
    clear hv eA
    generalize ip4H l = R at *
    generalize ip4C l = C at *
    go_enter Try.func18, Try.ntmps18
    go_wp2_with (go_at_call 10; refine HP.out.mono ?_; rintro e w2 ⟨rfl, b2⟩; refine Hid.out ?_)
    refine Lib.hid ?_
    go_wp2_with (refine wpList_store_new rfl (.tmp 6) (.tmp 15) rfl R _ rfl rfl rfl ?_)
    go_ret2
    exact ⟨⟨_, _, _, rfl, IsB.nil _⟩, b2.alloc b2.size _⟩
end Go.Proofs.Ytchkbdgoghcgcaa

/- OctetTexts returns true, whatever it is given, and turns no old memory. -/
import Derived.Test.YticmkdjdoljmiaaDoorRef3
import Derived.Deep.RegionWith
namespace Go.Proofs.YticmkdjdoljmiaaDoor
open Go Go.RowKit

/-- What the last statement's worlds have in common. -/
structure Both (w : World) (a b : Value) (l q : List UInt8) (W : World) : Prop where
  bel : Below w.heap.size w W
  fst : IsB W a l
  snd : IsB W b q
theorem Both.drew {w W : World} {a b : Value} {l q : List UInt8} (h : Both w a b l q W) : Both w a b l q W.drew :=
  ⟨h.bel.drew, h.fst.below ((Below.refl _ _).drew), h.snd.below ((Below.refl _ _).drew)⟩
theorem Both.step {w W W' : World} {a b : Value} {l q : List UInt8} (h : Both w a b l q W) (hb : Below W.heap.size W W') : Both w a b l q W' :=
  ⟨below_up h.bel hb h.bel.size, h.fst.below hb, h.snd.below hb⟩

set_option maxHeartbeats 4000000 in
theorem texts_walk (a : Option Addr) (n cap : Nat) (l : List UInt8) (s : ByteArray) (w : World) (hv : IsB w (.slice a n cap) l) (_hs : s.size ≤ maxLen)
    (htab : Lib.TabIs Tryd.prog w "internal/strconv.uint64pow10" .u64 Lib.pow10Tab) :
    Calls Tryd.prog 5 #[.slice a n cap, .string s] w fun e w' => e = .returned (.bool true) ∧ Below w.heap.size w w' := by
  have HA := Lib.hid (awake_any w htab)
  obtain ⟨rfl, hcap, hmax, _⟩ := hv.cells
  clear htab _hs
  by_cases hbig : 300 < l.length
  · go_enter Tryd.func5, Tryd.ntmps5
    go_wp2_with (go_at_call 9; refine HA.out.mono ?_; rintro e w1 ⟨rfl, b1⟩)
    go_ret
    exact ⟨rfl, b1⟩
  by_cases hbig2 : 300 < s.size
  · go_enter Tryd.func5, Tryd.ntmps5
    go_wp2_with (go_at_call 9; refine HA.out.mono ?_; rintro e w1 ⟨rfl, b1⟩)
    go_ret
    exact ⟨rfl, b1⟩
  have U := Lib.hid (fun W => unhex_any s W (by omega))
  have R := Lib.hid (fun W => runhex_any s W (by omega))
  generalize unhexL s.data.toList = q at *
  generalize unhexB s.data.toList = qb at *
  go_enter Tryd.func5, Tryd.ntmps5
  go_wp2_with (go_at_call 9; refine HA.out.mono ?_; rintro e w1 ⟨rfl, b1⟩; refine Hid.out ?_)
  refine Lib.hid ?_
  go_wp2_with (go_at_call 16; refine (U.out _).mono ?_; rintro e w2 ⟨⟨a2, n2, k2, rfl, i2⟩, b2⟩; refine Hid.out ?_)
  refine Lib.hid ?_
  go_wp2_with (go_at_call 17; refine (R.out _).mono ?_; rintro e w3 ⟨rfl, b3⟩; refine Hid.out ?_)
  refine Lib.hid ?_
  have g3 : Both w (.slice a l.length cap) (.slice a2 n2 k2) l q w3 :=
    ⟨below_up (below_up b1 b2 b1.size) b3 (by have := b1.size; have := b2.size; omega), ((hv.below b1).below b2).below b3, i2.below b3⟩
  have c1 := g3.drew.fst.conv Tryd.underlying22 Tryd.underlying5 Tryd.underlying9
  clear b1 b2 b3 i2 hv U R HA
  go_wp2_with fail
  go_region_with (first
    | (go_at_call 18; refine (hex_any _ _ _ l _ (Both.fst (w := w) (b := .slice a2 n2 k2) (q := q) ?_) (by omega)).mono ?_; (first | assumption | (refine Both.drew ?_; assumption)); rintro e w4 ⟨rfl, b4⟩; have g4 := Both.step (w := w) (a := .slice a l.length cap) (b := .slice a2 n2 k2) (l := l) (q := q) (by first | assumption | (refine Both.drew ?_; assumption)) b4; have c4 := g4.fst.conv Tryd.underlying22 Tryd.underlying5 Tryd.underlying9; have d4 := g4.snd.conv Tryd.underlying22 Tryd.underlying5 Tryd.underlying9)
    | (go_at_call 19; refine (rhex_l l _ (by omega)).mono ?_; rintro e w5 ⟨rfl, b5⟩; have g5 := Both.step (w := w) (a := .slice a l.length cap) (b := .slice a2 n2 k2) (l := l) (q := q) (by first | assumption | (refine Both.drew ?_; assumption)) b5; have d5 := g5.snd.conv Tryd.underlying22 Tryd.underlying5 Tryd.underlying9))
  all_goals
    go_wp2
    go_ret
    refine ⟨by simp [Act.put], ?_⟩
    exact Both.bel (a := .slice a l.length cap) (b := .slice a2 n2 k2) (l := l) (q := q) (by assumption)
end Go.Proofs.YticmkdjdoljmiaaDoor

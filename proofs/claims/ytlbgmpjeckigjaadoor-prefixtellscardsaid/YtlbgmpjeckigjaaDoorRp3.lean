/- The document's prefixes: Compare, Show, Parse. -/
import Derived.Test.YtlbgmpjeckigjaaDoorRp2
import Derived.Test.YtlbgmpjeckigjaaDoorPre6
import Derived.Test.YtlbgmpjeckigjaaDoorCrA
import Derived.Test.YtlbgmpjeckigjaaDoorCr5
import Derived.Test.YtlbgmpjeckigjaaDoorDot4
namespace Go.Proofs.YtlbgmpjeckigjaaDoor
open Go Go.RowKit

theorem drop_at (l : List UInt8) (k : Nat) (hk : k < l.length) : l.drop k = l.getD k 0 :: l.drop (k + 1) := by
  rw [List.drop_eq_getElem_cons hk]
  simp [List.getD, hk]
theorem cmp_lt (l m : List UInt8) (k : Nat) (hl : k < l.length) (hm : k < m.length) (h : byteAt l k < byteAt m k) : cmpB (l.drop k) (m.drop k) = -1 := by
  rw [drop_at l k hl, drop_at m k hm]
  unfold cmpB
  unfold byteAt at h
  rw [if_pos (by omega)]
theorem cmp_gt (l m : List UInt8) (k : Nat) (hl : k < l.length) (hm : k < m.length) (h : byteAt m k < byteAt l k) : cmpB (l.drop k) (m.drop k) = 1 := by
  rw [drop_at l k hl, drop_at m k hm]
  unfold cmpB
  unfold byteAt at h
  rw [if_neg (by omega), if_pos (by omega)]
theorem cmp_eq (l m : List UInt8) (k : Nat) (hl : k < l.length) (hm : k < m.length) (h : byteAt m k = byteAt l k) : cmpB (l.drop k) (m.drop k) = cmpB (l.drop (k + 1)) (m.drop (k + 1)) := by
  rw [drop_at l k hl, drop_at m k hm]
  conv => lhs; unfold cmpB
  unfold byteAt at h
  rw [if_neg (by omega), if_neg (by omega)]
theorem PairZ.drewN {w : World} {p q : Pfx} {W : World} (h : PairZ w p q W) (n : Nat) : PairZ w p q (W.drewN n) := ⟨h.1, h.2.1, below_drewN h.2.2 n⟩
set_option maxRecDepth 100000 in
set_option maxHeartbeats 8000000 in
theorem qcompare_any (p q : Pfx) (w : World) (f : p.addr.length = 16) (g : q.addr.length = 16) :
    Calls Tryd.prog 25 #[p.val, q.val] w fun r w' => r = .returned (.int .i64 (cmpP p q)) ∧ Below w.heap.size w w' := by
  have Z := Lib.hid (pairZ_new w p q)
  have c1 := Z.out.1.six
  have c2 := Z.out.2.1.six
  have HF := Lib.hid f
  have HG := Lib.hid g
  rw [show p.val = .agg p.cells from rfl, show q.val = .agg q.cells from rfl]
  by_cases h6 : p.six = q.six
  · have HV := Lib.hid (cmpP_six h6)
    generalize cmpP p q = R at *
    rw [← h6] at c2
    clear f g h6
    go_enter Tryd.func25, Tryd.ntmps25
    go_wp2
    go_loopw [5] (fun i wr => ∃ n : Nat, n ≤ 16 ∧ i = .int .i64 (n : Int) ∧ cmpB p.addr q.addr = cmpB (p.addr.drop n) (q.addr.drop n) ∧ PairZ w p q wr) (fun i _ => 16 - (intOf i).toNat)
    case atStart => exact ⟨0, by omega, rfl, rfl, Z.out⟩
    case round =>
      obtain ⟨n, hn, rfl, hcmp, hz⟩ := hrel
      clear Z c1 c2
      by_cases hlt : n < 16
      · have hlt2 : (n : Int) < 16 := by omega
        have c1 := hz.1.byte n (by rw [HF.out]; exact hlt)
        have c2 := hz.2.1.byte n (by rw [HG.out]; exact hlt)
        rw [show n + 1 = 1 + n by omega] at c1 c2
        have HZ := Lib.hid hz
        have HC := Lib.hid hcmp
        have hx := UInt8.toNat_lt (p.addr.getD n 0)
        have hy := UInt8.toNat_lt (q.addr.getD n 0)
        have HL := Lib.hid (cmp_lt p.addr q.addr n (by rw [HF.out]; exact hlt) (by rw [HG.out]; exact hlt))
        have HGt := Lib.hid (cmp_gt p.addr q.addr n (by rw [HF.out]; exact hlt) (by rw [HG.out]; exact hlt))
        have HEq := Lib.hid (cmp_eq p.addr q.addr n (by rw [HF.out]; exact hlt) (by rw [HG.out]; exact hlt))
        clear hz hcmp hx hy
        generalize byteAt p.addr n = x at *
        generalize byteAt q.addr n = y at *
        rcases Int.lt_trichotomy x y with h | h | h
        · have HR : Hid (R = -1) := by
            show R = -1
            rw [HV.out, HC.out, HL.out h]
            rfl
          clear HL HGt HEq
          go_wp2_with fail
          go_quiet (fail)
          go_wp2
          go_ret
          exact ⟨by rw [HR.out]; rfl, below_drewN HZ.out.2.2 _⟩
        · subst h
          have HE := Lib.hid (HC.out.trans (HEq.out rfl))
          clear HL HGt HEq HC
          go_wp2_with fail
          go_quiet (fail)
          go_wp2_with fail
          go_quiet (fail)
          go_wp2
          go_roundw
          case rel => exact ⟨n + 1, by omega, by go_num, HE.out, HZ.out.drewN _⟩
          case measure => simp [intOf]; omega
        · have HR : Hid (R = 1) := by
            show R = 1
            rw [HV.out, HC.out, HGt.out h]
            rfl
          clear HL HGt HEq
          go_wp2_with fail
          go_quiet (fail)
          go_wp2_with fail
          go_quiet (fail)
          go_wp2
          go_ret
          exact ⟨by rw [HR.out]; rfl, below_drewN (below_drewN HZ.out.2.2 _) _⟩
      · have h16 : n = 16 := by omega
        subst h16
        have c3 := hz.1.len HF.out
        have c4 := hz.2.1.len HG.out
        have HZ := Lib.hid hz
        rw [List.drop_of_length_le (by rw [HF.out]; omega), List.drop_of_length_le (by rw [HG.out]; omega)] at hcmp
        have hR := HV.out
        rw [hcmp] at hR
        have HR : Hid (R = cmpI p.len q.len) := hR
        clear hR HV hcmp hz
        generalize p.len = pl at *
        generalize q.len = ql at *
        rcases Int.lt_trichotomy pl ql with h | h | h
        · have HI : Hid (cmpI pl ql = -1) := by
            show cmpI pl ql = -1
            unfold cmpI
            rw [if_pos h]
          go_wp2
          go_ret
          exact ⟨by rw [HR.out, HI.out]; rfl, HZ.out.2.2⟩
        · have HI : Hid (cmpI pl ql = 0) := by
            show cmpI pl ql = 0
            unfold cmpI
            rw [if_neg (by omega), if_neg (by omega)]
          subst h
          go_wp2
          go_ret
          exact ⟨by rw [HR.out, HI.out]; rfl, HZ.out.2.2⟩
        · have HI : Hid (cmpI pl ql = 1) := by
            show cmpI pl ql = 1
            unfold cmpI
            rw [if_neg (by omega), if_pos h]
          go_wp2
          go_ret
          exact ⟨by rw [HR.out, HI.out]; rfl, HZ.out.2.2⟩
  · rw [cmpP_kind h6]
    clear f g
    generalize p.six = s at *
    generalize q.six = u at *
    go_enter Tryd.func25, Tryd.ntmps25
    cases s <;> cases u
    · exact absurd rfl h6
    · go_wp2
      go_ret
      exact ⟨rfl, Z.out.2.2⟩
    · go_wp2
      go_ret
      exact ⟨rfl, Z.out.2.2⟩
    · exact absurd rfl h6
theorem take_four (l : List UInt8) (h : 4 ≤ l.length) : l.take 4 = [l.getD 0 0, l.getD 1 0, l.getD 2 0, l.getD 3 0] := by
  match l, h with
  | a :: b :: c :: d :: r, _ => rfl
/-- The boxes of Show: the prefix and its address. -/
def QshZ (w : World) (p : Pfx) (W : World) : Prop := PfxT W w.heap.size p ∧ ArrT 22 W (w.heap.size + 1) p.addr ∧ Below w.heap.size w W
theorem QshZ.up {w : World} {p : Pfx} {W W' : World} (h : QshZ w p W) (hb : Below W.heap.size W W') : QshZ w p W' := ⟨h.1.up hb, h.2.1.up hb, below_up h.2.2 hb h.2.2.size⟩
set_option maxRecDepth 100000 in
set_option maxHeartbeats 4000000 in
theorem qshow_any (p : Pfx) (w : World) (f : p.addr.length = 16) (h0 : -9223372036854775808 ≤ p.len) (h1 : p.len ≤ 9223372036854775807) :
    Calls Tryd.prog 13 #[p.val] w fun r w' => r = .returned (.string ⟨(showP p).toArray⟩) ∧ Below w.heap.size w w' := by
  have z : QshZ w p ((w.alloc (.cells p.cells 24)).alloc (.cells (byteVals p.addr).toArray 22)) := twoZ_new w p p.addr
  have Z := Lib.hid z
  have HC := Lib.hid (fun W => rshow_any p.addr W f)
  have HD := Lib.hid (fun W => rshow4_any (p.addr.take 4) W (by rw [List.length_take]; omega))
  have hI := fun W => rdigits_any p.len W h0 h1
  have HN := Lib.hid hI
  have hil := Lib.itoa_length_le p.len h0 h1
  have hsa := (showA_len p.addr).2
  have hsd := showD_len (p.addr.take 4)
  rw [show (p.addr.take 4).length = 4 by rw [List.length_take]; omega] at hsd
  have HF := Lib.hid f
  have HT := Lib.hid (take_four p.addr (by omega))
  rw [show p.val = .agg p.cells from rfl]
  have hsh : showP p = headT p ++ 47 :: Lib.itoa p.len := rfl
  have hh : headT p = if p.six then showA p.addr else showD (p.addr.take 4) := rfl
  rw [hsh, hh]
  have Z0 := Lib.hid (pfxT_new w p)
  clear z f h0 h1 hsh hh hI
  generalize showA p.addr = A at *
  generalize hDD : showD (p.addr.take 4) = D at *
  obtain ⟨s, hs⟩ : ∃ s, p.six = s := ⟨_, rfl⟩
  obtain ⟨n, hn⟩ : ∃ n, p.len = n := ⟨_, rfl⟩
  rw [hs]
  rw [hn] at HN hil ⊢
  generalize Lib.itoa n = I at *
  have HS := Lib.hid (And.intro hs hn)
  clear hs hn hDD
  have x0 := Z.out.2.1.cell 0 (by rw [HF.out]; omega)
  have x1 := Z.out.2.1.cell 1 (by rw [HF.out]; omega)
  have x2 := Z.out.2.1.cell 2 (by rw [HF.out]; omega)
  have x3 := Z.out.2.1.cell 3 (by rw [HF.out]; omega)
  rw [HT.out] at HD
  clear HT
  have HD2 : Hid (∀ W : World, Calls Tryd.prog 32 #[.agg #[.int .u8 (byteAt p.addr 0), .int .u8 (byteAt p.addr 1), .int .u8 (byteAt p.addr 2), .int .u8 (byteAt p.addr 3)]] W fun r w' => r = .returned (.string ⟨D.toArray⟩) ∧ Below W.heap.size W w') := HD.out
  clear HD
  generalize byteAt p.addr 0 = b0 at *
  generalize byteAt p.addr 1 = b1 at *
  generalize byteAt p.addr 2 = b2 at *
  generalize byteAt p.addr 3 = b3 at *
  go_enter Tryd.func13, Tryd.ntmps13
  go_wp2_with (first | (refine wpList_load_arrR rfl (.tmp 5) rfl w.heap.size 1 p.addr HF.out rfl Z0.out.range ?_) | (refine wpList_store_newT rfl (.tmp 3) (.tmp 6) rfl p.addr (by rw [HF.out]; exact arr16P) _ (by rw [World.size_alloc]; rfl) rfl (by rw [HF.out]; rfl) ?_) | (go_at_call 32; refine (HD2.out _).mono ?_; rintro e w1 ⟨rfl, bb1⟩; refine Hid.out ?_))
  refine Lib.hid ?_
  have Z1 := Lib.hid (Z.out.up bb1)
  have c1 := Z1.out.1.six
  have c2 := Z1.out.1.len HF.out
  rw [HS.out.1] at c1
  rw [HS.out.2] at c2
  clear bb1 Z Z0 HD2 x0 x1 x2 x3
  cases s
  · go_wp2_with (go_at_call 34; refine (HN.out _).mono ?_; rintro e w3 ⟨rfl, rfl⟩)
    go_ret
    exact ⟨congrArg (fun x => Ending.returned (.string x)) (cat3 D I), Z1.out.2.2⟩
  · go_wp2_with (first | (refine wpList_load_arrT rfl (.tmp 3) rfl (w.heap.size + 1) p.addr (by rw [HF.out]; exact arr16P) rfl Z1.out.2.1 ?_) | (go_at_call 33; refine (HC.out _).mono ?_; rintro e w2 ⟨rfl, bb2⟩; refine Hid.out ?_))
    refine Lib.hid ?_
    have Z2 := Lib.hid (Z1.out.up bb2)
    have c2 := Z2.out.1.len HF.out
    rw [HS.out.2] at c2
    clear bb2 Z1 HC
    go_wp2_with (go_at_call 34; refine (HN.out _).mono ?_; rintro e w3 ⟨rfl, rfl⟩)
    go_ret
    exact ⟨congrArg (fun x => Ending.returned (.string x)) (cat3 A I), Z2.out.2.2⟩
end Go.Proofs.YtlbgmpjeckigjaaDoor

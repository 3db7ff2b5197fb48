/- PrefixApart returns true, whatever it is given, and turns no old memory. -/
import Derived.Test.YtlbgmpjeckigjaaDoorAw8
import Derived.Deep.CutRange
namespace Go.Proofs.YtlbgmpjeckigjaaDoor
open Go Go.RowKit

/-- What is held: both prefixes and the address. -/
def ApZ (w : World) (p q : Pfx) (a : List UInt8) (W : World) : Prop := PfxT W w.heap.size p ∧ PfxT W (w.heap.size + 1) q ∧ ArrT 22 W (w.heap.size + 1 + 1) a ∧ Below w.heap.size w W
theorem ApZ.up {w : World} {p q : Pfx} {a : List UInt8} {W W' : World} (h : ApZ w p q a W) (hb : Below W.heap.size W W') : ApZ w p q a W' := ⟨h.1.up hb, h.2.1.up hb, h.2.2.1.up hb, below_up h.2.2.2 hb h.2.2.2.size⟩
theorem ApZ.al {w : World} {p q : Pfx} {a : List UInt8} {W : World} (h : ApZ w p q a W) (o : Obj) : ApZ w p q a (W.alloc o) := h.up ((Below.refl _ _).alloc (Nat.le_refl _) _)
def TaZ (w : World) (p q : Pfx) (a : List UInt8) (C D : Pfx) (g10 g12 : Nat) (W : World) : Prop := ApZ w p q a W ∧ PfxT W g10 C ∧ PfxT W g12 D
theorem TaZ.up {w : World} {p q : Pfx} {a : List UInt8} {C D : Pfx} {g10 g12 : Nat} {W W' : World} (h : TaZ w p q a C D g10 g12 W) (hb : Below W.heap.size W W') : TaZ w p q a C D g10 g12 W' := ⟨h.1.up hb, h.2.1.up hb, h.2.2.up hb⟩
set_option maxRecDepth 100000 in
set_option maxHeartbeats 8000000 in
theorem papart_yes (p q : Pfx) (a : List UInt8) (w : World) (f : p.addr.length = 16) (g : q.addr.length = 16) (ha : a.length = 16) (kp : chkP p = true) (kq : chkP q = true) (h6 : p.six = q.six) (hE : Env8 w) :
    Calls Tryd.prog 6 #[p.val, q.val, arrV a] w fun e w' => e = .returned (.bool true) ∧ Below w.heap.size w w' := by
  have HAw := Lib.hid (fun W h => awake8_any W h)
  generalize hW : ((w.alloc (.cells p.cells 24)).alloc (.cells q.cells 24)).alloc (.cells (byteVals a).toArray 22) = W
  have z : ApZ w p q a W ∧ Env8 W := by
    have h := (pairZ_new w p q).al (.cells (byteVals a).toArray 22)
    have h2 := arrT_new (t := 22) ((w.alloc (.cells p.cells 24)).alloc (.cells q.cells 24)) a
    rw [World.size_alloc, World.size_alloc] at h2
    rw [← hW]
    exact ⟨⟨h.1, h.2.1, h2, h.2.2⟩, ((hE.al _).al _).al _⟩
  have Z := Lib.hid z
  rw [← hW] at Z
  have HF := Lib.hid f
  have HG := Lib.hid g
  have HA16 := Lib.hid ha
  have hk1 := fun W => pcheck_any p W f
  rw [kp, if_pos rfl] at hk1
  have hk2 := fun W => pcheck_any q W g
  rw [kq, if_pos rfl] at hk2
  have HK1 := Lib.hid hk1
  have HK2 := Lib.hid hk2
  have H1 := Lib.hid (fun W => covers_any p q W f g)
  have H2 := Lib.hid (fun W => covers_any q p W g f)
  have HHp := Lib.hid (fun W => has_any p a W f ha)
  have HHq := Lib.hid (fun W => has_any q a W g ha)
  have F1 : Hid (covP p q = false → covP q p = false → hasP p a = true → hasP q a ≠ true) := fun c1 c2 x y => by
    rcases cov_or h6 a x y with h | h
    · rw [c1] at h; cases h
    · rw [c2] at h; cases h
  have F2 : Hid (covP p q = true → hasP q a = true → hasP p a = true) := fun c x => cov_has c x
  have F3 : Hid (covP p q = true → covP q p = true → eqP p q = true) := fun c1 c2 => eqP_iff.2 (cov_same kp kq f g c1 c2)
  obtain ⟨m1, m2, m3, m4, m5⟩ := com_cov h6 kp kq
  have hcv : comV p q = ofP p.six p.addr (comP p q) := by unfold comV; rw [if_pos h6]
  have hcm := fun W => common_any p q W f g
  rw [hcv, beq_iff_eq.2 h6] at hcm
  have HCm := Lib.hid hcm
  have HC := Lib.hid (of_len p.six p.addr (comP p q))
  have HD := Lib.hid (of_len p.six p.addr ((comP p q : Int) + 1))
  have HCl := Lib.hid m4
  have HOf := Lib.hid (fun W => pof_any p.six p.addr ((comP p q : Int) + 1) W f)
  have hkc := fun W => pcheck_any (ofP p.six p.addr (comP p q)) W HC.out
  rw [m1, if_pos rfl] at hkc
  have HKc := Lib.hid hkc
  have hcp := fun W => covers_any (ofP p.six p.addr (comP p q)) p W HC.out f
  rw [m2] at hcp
  have HCp := Lib.hid hcp
  have hcq := fun W => covers_any (ofP p.six p.addr (comP p q)) q W HC.out g
  rw [m3] at hcq
  have HCq := Lib.hid hcq
  have HDp := Lib.hid (fun W => covers_any (ofP p.six p.addr ((comP p q : Int) + 1)) p W HD.out f)
  have HDq := Lib.hid (fun W => covers_any (ofP p.six p.addr ((comP p q : Int) + 1)) q W HD.out g)
  have HDc : Hid (covP (ofP p.six p.addr ((comP p q : Int) + 1)) p = true → covP (ofP p.six p.addr ((comP p q : Int) + 1)) q = true → eqP (ofP p.six p.addr ((comP p q : Int) + 1)) (ofP p.six p.addr (comP p q)) = true) := fun x y => by
    rcases m5 with h | h
    · exact eqP_iff.2 h
    · exact absurd ⟨x, y⟩ h
  have hN : comP p q ≤ 128 := by
    have h1 := (chk_iff p).1 kp
    have h2 := (clamp_le p.six 0).2.2
    have h3 := (cov_iff _ _).1 m2
    rw [m4] at h3
    have h4 := h3.2.1
    omega
  rw [show p.val = .agg p.cells from rfl, show q.val = .agg q.cells from rfl, show arrV a = .agg (byteVals a).toArray from rfl]
  have H6 := Lib.hid h6
  clear f g ha kp kq hE hW z hk1 hk2 m1 m2 m3 m4 m5 hcv hcm hkc hcp hcq h6
  clear W
  generalize ofP p.six p.addr ((comP p q : Int) + 1) = D at *
  generalize ofP p.six p.addr (comP p q) = C at *
  generalize comP p q = N at *
  generalize covP D p = dp at *
  generalize covP D q = dq at *
  generalize covP p q = one at *
  generalize covP q p = two at *
  generalize hasP p a = hp at *
  generalize hasP q a = hq at *
  go_enter Tryd.func6, Tryd.ntmps6
  go_wp2_with (go_at_call 9; refine (HAw.out _ Z.out.2).mono ?_; rintro e w1 ⟨rfl, b1⟩; refine Hid.out ?_)
  refine Lib.hid ?_
  have Z1 := Lib.hid (Z.out.1.up b1)
  clear Z b1 HAw
  go_wp2_with (first | (refine wpList_load_pfx rfl (.tmp 3) rfl w.heap.size p HF.out rfl Z1.out.1 ?_) | (go_at_call 10; refine (HK1.out _).mono ?_; rintro e w2 ⟨rfl, b2⟩; refine Hid.out ?_))
  refine Lib.hid ?_
  have Z2 := Lib.hid (Z1.out.up b2)
  clear b2
  clear Z1
  go_wp2_with (first | (refine wpList_load_pfxG rfl (.tmp 4) rfl (w.heap.size + 1) q HG.out rfl Z2.out.2.1 ?_) | (go_at_call 10; refine (HK2.out _).mono ?_; rintro e w3 ⟨rfl, b3⟩; refine Hid.out ?_))
  refine Lib.hid ?_
  have Z3 := Lib.hid (Z2.out.up b3)
  clear b3
  clear Z2
  have c1 := Z3.out.1.six
  have c2 := Z3.out.2.1.six
  rw [← H6.out] at c2
  go_wp2_with (first | (refine wpList_load_pfx rfl (.tmp 3) rfl w.heap.size p HF.out rfl Z3.out.1 ?_) | (refine wpList_load_pfx rfl (.tmp 4) rfl (w.heap.size + 1) q HG.out rfl Z3.out.2.1 ?_) | (go_at_call 22; refine (H1.out _).mono ?_; rintro e w4 ⟨rfl, b4⟩; refine Hid.out ?_))
  refine Lib.hid ?_
  have Z4 := Lib.hid (Z3.out.up b4)
  clear b4
  clear Z3 c1 c2
  go_wp2_with (first | (refine wpList_load_pfx rfl (.tmp 3) rfl w.heap.size p HF.out rfl Z4.out.1 ?_) | (refine wpList_load_pfx rfl (.tmp 4) rfl (w.heap.size + 1) q HG.out rfl Z4.out.2.1 ?_) | (go_at_call 22; refine (H2.out _).mono ?_; rintro e w5 ⟨rfl, b5⟩; refine Hid.out ?_))
  refine Lib.hid ?_
  have Z5 := Lib.hid (Z4.out.up b5)
  clear b5
  clear Z4 HK1 HK2 H1 H2
  go_upto_region 8 with fail
  go_cut [78] from 38 to 78 (fun c wx => c = .bool false ∧ ApZ w p q a wx)
  case first =>
    cases one
    · cases two
      · have hn := F1.out rfl rfl
        cases hp
        · go_wp2_with (first | (refine wpList_load_pfxG rfl (.tmp 3) rfl w.heap.size p HF.out rfl Z5.out.1 ?_) | (refine wpList_load_arrG rfl (.tmp 5) rfl (w.heap.size + 1 + 1) a (by rw [HA16.out]; exact arr16P) rfl Z5.out.2.2.1 ?_) | (go_at_call 16; refine (HHp.out _).mono ?_; rintro e w10 ⟨rfl, b10⟩; refine Hid.out ?_))
          refine Lib.hid ?_
          have Z10 := Lib.hid (Z5.out.up b10)
          clear b10
          go_wp2_with fail
          go_meet
          exact ⟨rfl, Z10.out⟩
        · cases hq
          · go_wp2_with (first | (refine wpList_load_pfxG rfl (.tmp 3) rfl w.heap.size p HF.out rfl Z5.out.1 ?_) | (refine wpList_load_arrG rfl (.tmp 5) rfl (w.heap.size + 1 + 1) a (by rw [HA16.out]; exact arr16P) rfl Z5.out.2.2.1 ?_) | (go_at_call 16; refine (HHp.out _).mono ?_; rintro e w10 ⟨rfl, b10⟩; refine Hid.out ?_))
            refine Lib.hid ?_
            have Z10 := Lib.hid (Z5.out.up b10)
            clear b10
            go_wp2_with (first | (refine wpList_load_pfxG rfl (.tmp 4) rfl (w.heap.size + 1) q HG.out rfl Z10.out.2.1 ?_) | (refine wpList_load_arrG rfl (.tmp 5) rfl (w.heap.size + 1 + 1) a (by rw [HA16.out]; exact arr16P) rfl Z10.out.2.2.1 ?_) | (go_at_call 16; refine (HHq.out _).mono ?_; rintro e w11 ⟨rfl, b11⟩; refine Hid.out ?_))
            refine Lib.hid ?_
            have Z11 := Lib.hid (Z10.out.up b11)
            clear b11
            go_wp2_with fail
            go_meet
            exact ⟨rfl, Z11.out⟩
          · exact absurd rfl (hn rfl)
      · go_wp2_with fail
        go_meet
        exact ⟨rfl, Z5.out⟩
    · have hi := F2.out rfl
      cases two
      · cases hq
        · go_wp2_with (first | (refine wpList_load_pfxG rfl (.tmp 4) rfl (w.heap.size + 1) q HG.out rfl Z5.out.2.1 ?_) | (refine wpList_load_arrG rfl (.tmp 5) rfl (w.heap.size + 1 + 1) a (by rw [HA16.out]; exact arr16P) rfl Z5.out.2.2.1 ?_) | (go_at_call 16; refine (HHq.out _).mono ?_; rintro e w10 ⟨rfl, b10⟩; refine Hid.out ?_))
          refine Lib.hid ?_
          have Z10 := Lib.hid (Z5.out.up b10)
          clear b10
          go_wp2_with fail
          go_meet
          exact ⟨rfl, Z10.out⟩
        · obtain rfl := hi rfl
          go_wp2_with (first | (refine wpList_load_pfxG rfl (.tmp 4) rfl (w.heap.size + 1) q HG.out rfl Z5.out.2.1 ?_) | (refine wpList_load_arrG rfl (.tmp 5) rfl (w.heap.size + 1 + 1) a (by rw [HA16.out]; exact arr16P) rfl Z5.out.2.2.1 ?_) | (go_at_call 16; refine (HHq.out _).mono ?_; rintro e w10 ⟨rfl, b10⟩; refine Hid.out ?_))
          refine Lib.hid ?_
          have Z10 := Lib.hid (Z5.out.up b10)
          clear b10
          go_wp2_with (first | (refine wpList_load_pfxG rfl (.tmp 3) rfl w.heap.size p HF.out rfl Z10.out.1 ?_) | (refine wpList_load_arrG rfl (.tmp 5) rfl (w.heap.size + 1 + 1) a (by rw [HA16.out]; exact arr16P) rfl Z10.out.2.2.1 ?_) | (go_at_call 16; refine (HHp.out _).mono ?_; rintro e w11 ⟨rfl, b11⟩; refine Hid.out ?_))
          refine Lib.hid ?_
          have Z11 := Lib.hid (Z10.out.up b11)
          clear b11
          go_wp2_with fail
          go_meet
          exact ⟨rfl, Z11.out⟩
      · have he := F3.out rfl rfl
        have HE := Lib.hid he
        clear he
        cases hq
        · go_wp2_with (first | (refine wpList_load_pfxG rfl (.tmp 4) rfl (w.heap.size + 1) q HG.out rfl Z5.out.2.1 ?_) | (refine wpList_load_arrG rfl (.tmp 5) rfl (w.heap.size + 1 + 1) a (by rw [HA16.out]; exact arr16P) rfl Z5.out.2.2.1 ?_) | (go_at_call 16; refine (HHq.out _).mono ?_; rintro e w10 ⟨rfl, b10⟩; refine Hid.out ?_))
          refine Lib.hid ?_
          have Z10 := Lib.hid (Z5.out.up b10)
          clear b10
          go_wp2_with (first | (refine wpList_load_pfxG rfl (.tmp 3) rfl w.heap.size p HF.out rfl Z10.out.1 ?_) | (refine wpList_load_pfxG rfl (.tmp 4) rfl (w.heap.size + 1) q HG.out rfl Z10.out.2.1 ?_) | (refine wpList_neq_pfxGB rfl 74 75 _ rfl p q HF.out HG.out false (by rw [HE.out]; rfl) rfl rfl ?_))
          go_meet
          exact ⟨rfl, Z10.out⟩
        · obtain rfl := hi rfl
          go_wp2_with (first | (refine wpList_load_pfxG rfl (.tmp 4) rfl (w.heap.size + 1) q HG.out rfl Z5.out.2.1 ?_) | (refine wpList_load_arrG rfl (.tmp 5) rfl (w.heap.size + 1 + 1) a (by rw [HA16.out]; exact arr16P) rfl Z5.out.2.2.1 ?_) | (go_at_call 16; refine (HHq.out _).mono ?_; rintro e w10 ⟨rfl, b10⟩; refine Hid.out ?_))
          refine Lib.hid ?_
          have Z10 := Lib.hid (Z5.out.up b10)
          clear b10
          go_wp2_with (first | (refine wpList_load_pfxG rfl (.tmp 3) rfl w.heap.size p HF.out rfl Z10.out.1 ?_) | (refine wpList_load_arrG rfl (.tmp 5) rfl (w.heap.size + 1 + 1) a (by rw [HA16.out]; exact arr16P) rfl Z10.out.2.2.1 ?_) | (go_at_call 16; refine (HHp.out _).mono ?_; rintro e w11 ⟨rfl, b11⟩; refine Hid.out ?_))
          refine Lib.hid ?_
          have Z11 := Lib.hid (Z10.out.up b11)
          clear b11
          go_wp2_with (first | (refine wpList_load_pfxG rfl (.tmp 3) rfl w.heap.size p HF.out rfl Z11.out.1 ?_) | (refine wpList_load_pfxG rfl (.tmp 4) rfl (w.heap.size + 1) q HG.out rfl Z11.out.2.1 ?_) | (refine wpList_neq_pfxGB rfl 74 75 _ rfl p q HF.out HG.out false (by rw [HE.out]; rfl) rfl rfl ?_))
          go_meet
          exact ⟨rfl, Z11.out⟩
  case rest =>
    obtain ⟨rfl, hz⟩ := hcut
    have Z6 := Lib.hid hz
    clear hz Z5
    go_wp2_with (first | (refine wpList_load_pfx rfl (.tmp 3) rfl w.heap.size p HF.out rfl Z6.out.1 ?_) | (refine wpList_load_pfx rfl (.tmp 4) rfl (w.heap.size + 1) q HG.out rfl Z6.out.2.1 ?_) | (go_at_call 20; refine (HCm.out _).mono ?_; rintro e w7 ⟨rfl, b7⟩; refine Hid.out ?_))
    refine Lib.hid ?_
    have Z7 := Lib.hid (show ApZ w p q a (w7.alloc (.cells C.cells 24)) ∧ PfxT (w7.alloc (.cells C.cells 24)) w7.heap.size C from ⟨(Z6.out.up b7).al _, pfxT_new w7 C⟩)
    clear b7
    have c6 := Z7.out.1.1.six
    have c7 := Z7.out.2.len HC.out
    rw [HCl.out] at c7
    clear Z6
    go_wp2_with (first | (refine wpList_store_newP rfl (.tmp 10) (.tmp 83) rfl C HC.out _ rfl rfl rfl ?_) | (refine wpList_load_arrR rfl (.tmp 87) rfl w.heap.size 1 p.addr HF.out rfl Z7.out.1.1.range ?_) | (go_at_call 14; refine (HOf.out _).mono ?_; rintro e w8 ⟨rfl, b8⟩; refine Hid.out ?_))
    refine Lib.hid ?_
    have Z8 := Lib.hid (show TaZ w p q a C D w7.heap.size w8.heap.size (w8.alloc (.cells D.cells 24)) from ⟨(Z7.out.1.up b8).al _, (Z7.out.2.up b8).al _, pfxT_new w8 D⟩)
    clear b8
    clear Z7 c6 c7
    generalize w7.heap.size = g10 at *
    go_upto_region 12 with (refine wpList_store_newP rfl (.tmp 12) (.tmp 92) rfl D HD.out _ rfl rfl rfl ?_)
    generalize w8.heap.size = g12 at *
    simp only [Act.put]
    go_cut [13] from 93 to 100 (fun c wx => ∃ lg : Bool, c = .bool lg ∧ (lg = true → eqP D C = true) ∧ TaZ w p q a C D g10 g12 wx)
    case first =>
      cases dp
      · go_wp2_with (first | (refine wpList_load_pfx rfl (.tmp 12) rfl g12 D HD.out rfl Z8.out.2.2 ?_) | (refine wpList_load_pfx rfl (.tmp 3) rfl w.heap.size p HF.out rfl Z8.out.1.1 ?_) | (go_at_call 22; refine (HDp.out _).mono ?_; rintro e w9 ⟨rfl, b9⟩; refine Hid.out ?_))
        refine Lib.hid ?_
        have Z9 := Lib.hid (Z8.out.up b9)
        clear b9
        go_wp2_with fail
        go_meet
        exact ⟨false, rfl, (fun h => by cases h), Z9.out⟩
      · cases dq
        · go_wp2_with (first | (refine wpList_load_pfx rfl (.tmp 12) rfl g12 D HD.out rfl Z8.out.2.2 ?_) | (refine wpList_load_pfx rfl (.tmp 3) rfl w.heap.size p HF.out rfl Z8.out.1.1 ?_) | (go_at_call 22; refine (HDp.out _).mono ?_; rintro e w9 ⟨rfl, b9⟩; refine Hid.out ?_))
          refine Lib.hid ?_
          have Z9 := Lib.hid (Z8.out.up b9)
          clear b9
          go_wp2_with (first | (refine wpList_load_pfxG rfl (.tmp 12) rfl g12 D HD.out rfl Z9.out.2.2 ?_) | (refine wpList_load_pfxG rfl (.tmp 4) rfl (w.heap.size + 1) q HG.out rfl Z9.out.1.2.1 ?_) | (go_at_call 22; refine (HDq.out _).mono ?_; rintro e w19 ⟨rfl, b19⟩; refine Hid.out ?_))
          refine Lib.hid ?_
          have Z19 := Lib.hid (Z9.out.up b19)
          clear b19
          go_wp2_with fail
          go_meet
          exact ⟨false, rfl, (fun h => by cases h), Z19.out⟩
        · have HDC := Lib.hid (HDc.out rfl rfl)
          go_wp2_with (first | (refine wpList_load_pfx rfl (.tmp 12) rfl g12 D HD.out rfl Z8.out.2.2 ?_) | (refine wpList_load_pfx rfl (.tmp 3) rfl w.heap.size p HF.out rfl Z8.out.1.1 ?_) | (go_at_call 22; refine (HDp.out _).mono ?_; rintro e w9 ⟨rfl, b9⟩; refine Hid.out ?_))
          refine Lib.hid ?_
          have Z9 := Lib.hid (Z8.out.up b9)
          clear b9
          go_wp2_with (first | (refine wpList_load_pfxG rfl (.tmp 12) rfl g12 D HD.out rfl Z9.out.2.2 ?_) | (refine wpList_load_pfxG rfl (.tmp 4) rfl (w.heap.size + 1) q HG.out rfl Z9.out.1.2.1 ?_) | (go_at_call 22; refine (HDq.out _).mono ?_; rintro e w19 ⟨rfl, b19⟩; refine Hid.out ?_))
          refine Lib.hid ?_
          have Z19 := Lib.hid (Z9.out.up b19)
          clear b19
          go_wp2_with fail
          go_meet
          exact ⟨true, rfl, (fun _ => HDC.out), Z19.out⟩
    case rest =>
      obtain ⟨lg, rfl, hlg, hz⟩ := hcut
      have Z19 := Lib.hid hz
      have HLG := Lib.hid hlg
      clear hz Z8 hlg HDc HDp HDq
      go_wp2_with (first | (refine wpList_load_pfxG rfl (.tmp 10) rfl g10 C HC.out rfl Z19.out.2.1 ?_) | (go_at_call 10; refine (HKc.out _).mono ?_; rintro e w20 ⟨rfl, b20⟩; refine Hid.out ?_))
      refine Lib.hid ?_
      have Z20 := Lib.hid (Z19.out.up b20)
      clear b20
      go_wp2_with (first | (refine wpList_load_pfxG rfl (.tmp 10) rfl g10 C HC.out rfl Z20.out.2.1 ?_) | (refine wpList_load_pfxG rfl (.tmp 3) rfl w.heap.size p HF.out rfl Z20.out.1.1 ?_) | (go_at_call 22; refine (HCp.out _).mono ?_; rintro e w21 ⟨rfl, b21⟩; refine Hid.out ?_))
      refine Lib.hid ?_
      have Z21 := Lib.hid (Z20.out.up b21)
      clear b21
      go_wp2_with (first | (refine wpList_load_pfxG rfl (.tmp 10) rfl g10 C HC.out rfl Z21.out.2.1 ?_) | (refine wpList_load_pfxG rfl (.tmp 4) rfl (w.heap.size + 1) q HG.out rfl Z21.out.1.2.1 ?_) | (go_at_call 22; refine (HCq.out _).mono ?_; rintro e w22 ⟨rfl, b22⟩; refine Hid.out ?_))
      refine Lib.hid ?_
      have Z22 := Lib.hid (Z21.out.up b22)
      clear b22
      cases hdc : eqP D C
      · have HDC := Lib.hid hdc
        cases lg
        · clear hdc
          go_wp2_with (first | (refine wpList_load_pfxG rfl (.tmp 12) rfl g12 D HD.out rfl Z22.out.2.2 ?_) | (refine wpList_load_pfxG rfl (.tmp 10) rfl g10 C HC.out rfl Z22.out.2.1 ?_) | (refine wpList_eql_pfxGB rfl 118 119 _ rfl D C HD.out HC.out false HDC.out rfl rfl ?_))
          go_ret
          exact ⟨rfl, Z22.out.1.2.2.2⟩
        · have h2 := HLG.out rfl
          rw [hdc] at h2
          cases h2
      · have HDC := Lib.hid hdc
        clear hdc
        go_wp2_with (first | (refine wpList_load_pfxG rfl (.tmp 12) rfl g12 D HD.out rfl Z22.out.2.2 ?_) | (refine wpList_load_pfxG rfl (.tmp 10) rfl g10 C HC.out rfl Z22.out.2.1 ?_) | (refine wpList_eql_pfxGB rfl 118 119 _ rfl D C HD.out HC.out true HDC.out rfl rfl ?_))
        go_ret
        exact ⟨rfl, Z22.out.1.2.2.2⟩
/-- Of prefixes of which one may not be, or of two kinds, nothing is asked. -/
theorem apZ_new {w : World} (p q : Pfx) (a : List UInt8) (hE : Env8 w) : ApZ w p q a (((w.alloc (.cells p.cells 24)).alloc (.cells q.cells 24)).alloc (.cells (byteVals a).toArray 22)) ∧ Env8 (((w.alloc (.cells p.cells 24)).alloc (.cells q.cells 24)).alloc (.cells (byteVals a).toArray 22)) := by
  have h := (pairZ_new w p q).al (.cells (byteVals a).toArray 22)
  have h2 := arrT_new (t := 22) ((w.alloc (.cells p.cells 24)).alloc (.cells q.cells 24)) a
  rw [World.size_alloc, World.size_alloc] at h2
  exact ⟨⟨h.1, h.2.1, h2, h.2.2⟩, ((hE.al _).al _).al _⟩
set_option maxRecDepth 100000 in
set_option maxHeartbeats 8000000 in
theorem papart_no (p q : Pfx) (a : List UInt8) (w : World) (f : p.addr.length = 16) (g : q.addr.length = 16) (hno : chkP p = false ∨ (chkP p = true ∧ chkP q = false) ∨ (chkP p = true ∧ chkP q = true ∧ p.six ≠ q.six)) (hE : Env8 w) :
    Calls Tryd.prog 6 #[p.val, q.val, arrV a] w fun e w' => e = .returned (.bool true) ∧ Below w.heap.size w w' := by
  have HAw := Lib.hid (fun W h => awake8_any W h)
  have Z := Lib.hid (apZ_new p q a hE)
  have HF := Lib.hid f
  have HG := Lib.hid g
  have HK1 := Lib.hid (fun W => pcheck_any p W f)
  have HK2 := Lib.hid (fun W => pcheck_any q W g)
  rw [show p.val = .agg p.cells from rfl, show q.val = .agg q.cells from rfl, show arrV a = .agg (byteVals a).toArray from rfl]
  clear f g hE
  rcases hno with h | ⟨h1, h2⟩ | ⟨h1, h2, h3⟩
  · rw [h, if_neg (by simp)] at HK1
    clear h HK2
    go_enter Tryd.func6, Tryd.ntmps6
    go_wp2_with (go_at_call 9; refine (HAw.out _ Z.out.2).mono ?_; rintro e w1 ⟨rfl, b1⟩; refine Hid.out ?_)
    refine Lib.hid ?_
    have Z1 := Lib.hid (Z.out.1.up b1)
    clear Z b1 HAw
    go_wp2_with (first | (refine wpList_load_pfx rfl (.tmp 3) rfl w.heap.size p HF.out rfl Z1.out.1 ?_) | (go_at_call 10; refine (HK1.out _).mono ?_; rintro e w2 ⟨rfl, b2⟩; refine Hid.out ?_))
    refine Lib.hid ?_
    have Z2 := Lib.hid (Z1.out.up b2)
    clear b2
    go_wp2
    go_ret
    exact ⟨rfl, Z2.out.2.2.2⟩
  · rw [h1, if_pos rfl] at HK1
    rw [h2, if_neg (by simp)] at HK2
    clear h1 h2
    go_enter Tryd.func6, Tryd.ntmps6
    go_wp2_with (go_at_call 9; refine (HAw.out _ Z.out.2).mono ?_; rintro e w1 ⟨rfl, b1⟩; refine Hid.out ?_)
    refine Lib.hid ?_
    have Z1 := Lib.hid (Z.out.1.up b1)
    clear Z b1 HAw
    go_wp2_with (first | (refine wpList_load_pfx rfl (.tmp 3) rfl w.heap.size p HF.out rfl Z1.out.1 ?_) | (go_at_call 10; refine (HK1.out _).mono ?_; rintro e w2 ⟨rfl, b2⟩; refine Hid.out ?_))
    refine Lib.hid ?_
    have Z2 := Lib.hid (Z1.out.up b2)
    clear b2
    go_wp2_with (first | (refine wpList_load_pfxG rfl (.tmp 4) rfl (w.heap.size + 1) q HG.out rfl Z2.out.2.1 ?_) | (go_at_call 10; refine (HK2.out _).mono ?_; rintro e w3 ⟨rfl, b3⟩; refine Hid.out ?_))
    refine Lib.hid ?_
    have Z3 := Lib.hid (Z2.out.up b3)
    clear b3
    go_wp2
    go_ret
    exact ⟨rfl, Z3.out.2.2.2⟩
  · rw [h1, if_pos rfl] at HK1
    rw [h2, if_pos rfl] at HK2
    obtain ⟨s, hs⟩ : ∃ s, p.six = s := ⟨_, rfl⟩
    obtain ⟨u, hu⟩ : ∃ u, q.six = u := ⟨_, rfl⟩
    rw [hs, hu] at h3
    have HS := Lib.hid (And.intro hs hu)
    clear h1 h2 hs hu
    go_enter Tryd.func6, Tryd.ntmps6
    go_wp2_with (go_at_call 9; refine (HAw.out _ Z.out.2).mono ?_; rintro e w1 ⟨rfl, b1⟩; refine Hid.out ?_)
    refine Lib.hid ?_
    have Z1 := Lib.hid (Z.out.1.up b1)
    clear Z b1 HAw
    go_wp2_with (first | (refine wpList_load_pfx rfl (.tmp 3) rfl w.heap.size p HF.out rfl Z1.out.1 ?_) | (go_at_call 10; refine (HK1.out _).mono ?_; rintro e w2 ⟨rfl, b2⟩; refine Hid.out ?_))
    refine Lib.hid ?_
    have Z2 := Lib.hid (Z1.out.up b2)
    clear b2
    go_wp2_with (first | (refine wpList_load_pfxG rfl (.tmp 4) rfl (w.heap.size + 1) q HG.out rfl Z2.out.2.1 ?_) | (go_at_call 10; refine (HK2.out _).mono ?_; rintro e w3 ⟨rfl, b3⟩; refine Hid.out ?_))
    refine Lib.hid ?_
    have Z3 := Lib.hid (Z2.out.up b3)
    clear b3
    have c1 := Z3.out.1.six
    have c2 := Z3.out.2.1.six
    rw [HS.out.1] at c1
    rw [HS.out.2] at c2
    cases s <;> cases u
    · exact absurd rfl h3
    · go_wp2
      go_ret
      exact ⟨rfl, Z3.out.2.2.2⟩
    · go_wp2
      go_ret
      exact ⟨rfl, Z3.out.2.2.2⟩
    · exact absurd rfl h3
theorem papart_walk (p q : Pfx) (a : List UInt8) (w : World) (f : p.addr.length = 16) (_f0 : -9223372036854775808 ≤ p.len) (_f1 : p.len ≤ 9223372036854775807) (g : q.addr.length = 16) (_g0 : -9223372036854775808 ≤ q.len) (_g1 : q.len ≤ 9223372036854775807) (ha : a.length = 16) (hE : Env8 w) :
    Calls Tryd.prog 6 #[p.val, q.val, arrV a] w fun e w' => e = .returned (.bool true) ∧ Below w.heap.size w w' := by
  cases kp : chkP p
  · exact papart_no p q a w f g (.inl kp) hE
  · cases kq : chkP q
    · exact papart_no p q a w f g (.inr (.inl ⟨kp, kq⟩)) hE
    · by_cases h6 : p.six = q.six
      · exact papart_yes p q a w f g ha kp kq h6 hE
      · exact papart_no p q a w f g (.inr (.inr ⟨kp, kq, h6⟩)) hE
end Go.Proofs.YtlbgmpjeckigjaaDoor

/- PrefixBack returns true, whatever it is given, and turns no old memory. -/
import Derived.Test.YtlbgmpjeckigjaaDoorAw8
import Derived.Deep.CutRange
namespace Go.Proofs.YtlbgmpjeckigjaaDoor
open Go Go.RowKit

theorem showP_len (p : Pfx) (h0 : -9223372036854775808 ≤ p.len) (h1 : p.len ≤ 9223372036854775807) : (showP p).length ≤ 200 := by
  have := headT_len p
  have h2 := Lib.itoa_length_le p.len h0 h1
  unfold showP
  rw [List.length_append, List.length_cons]
  omega
theorem parP_len' (l : List UInt8) : ((parP l).getD zeroP).addr.length = 16 := by
  unfold parP
  split
  · rfl
  · split
    · exact adrT_length _
    · rfl
/-- What is held: the prefix, the address, the library's cells; two more boxes. -/
def BaZ (w : World) (p : Pfx) (a : List UInt8) (W : World) : Prop := TwoZ w p a W ∧ Env8 W
theorem BaZ.up {w : World} {p : Pfx} {a : List UInt8} {W W' : World} (h : BaZ w p a W) (hb : Below W.heap.size W W') : BaZ w p a W' := ⟨h.1.up hb, h.2.up hb⟩
theorem BaZ.al {w : World} {p : Pfx} {a : List UInt8} {W : World} (h : BaZ w p a W) (o : Obj) : BaZ w p a (W.alloc o) := h.up ((Below.refl _ _).alloc (Nat.le_refl _) _)
theorem cmp_self (p : Pfx) : cmpP p p = 0 := by
  rw [cmpP_six rfl, cmpB_self]
  simp
theorem cmp_eqP (p q : Pfx) (h : p.addr.length = q.addr.length) : decide (cmpP p q = 0) = eqP p q := by
  cases e : eqP p q
  · refine decide_eq_false fun h0 => ?_
    rw [cmpP_zero h h0, eqP_self] at e
    cases e
  · rw [eqP_iff.1 e]
    exact decide_eq_true (cmp_self q)
theorem cmp_small (p q : Pfx) : -1 ≤ cmpP p q ∧ cmpP p q ≤ 1 := by
  have hb : ∀ l m : List UInt8, -1 ≤ cmpB l m ∧ cmpB l m ≤ 1 := by
    intro l
    induction l with
    | nil => intro m; cases m <;> simp [cmpB]
    | cons x l ih =>
      intro m
      cases m with
      | nil => simp [cmpB]
      | cons y m =>
        unfold cmpB
        split
        · omega
        · split
          · omega
          · exact ih m
  unfold cmpP
  have := hb p.addr q.addr
  split
  · split <;> omega
  · split
    · exact this
    · split
      · omega
      · split <;> omega
set_option maxRecDepth 100000 in
set_option maxHeartbeats 8000000 in
theorem pback_walk (p : Pfx) (a : List UInt8) (n : Int) (w : World) (f : p.addr.length = 16) (f0 : -9223372036854775808 ≤ p.len) (f1 : p.len ≤ 9223372036854775807) (ha : a.length = 16) (_n0 : -9223372036854775808 ≤ n) (_n1 : n ≤ 9223372036854775807) (hE : Env8 w) :
    Calls Tryd.prog 7 #[p.val, arrV a, .int .i64 n] w fun e w' => e = .returned (.bool true) ∧ Below w.heap.size w w' := by
  have HAw := Lib.hid (fun W h => awake8_any W h)
  have Z : Hid (BaZ w p a ((w.alloc (.cells p.cells 24)).alloc (.cells (byteVals a).toArray 22))) := ⟨twoZ_new w p a, (hE.al _).al _⟩
  have HF := Lib.hid f
  have HA16 := Lib.hid ha
  have H1 := Lib.hid (fun W h => pshow_any p W f f0 f1 h)
  have H2 := Lib.hid (fun W h => pparse_any ⟨(showP p).toArray⟩ W (by rw [str_len]; have := showP_len p f0 f1; omega) h)
  rw [str_list] at H2
  have H3 := Lib.hid (fun W => pcheck_any p W f)
  have H4 := Lib.hid (fun W => pof_any p.six a n W ha)
  have HR := Lib.hid (of_len p.six a n)
  have hk := of_chk p.six a n
  have hh := of_has p.six a n
  have H5 := Lib.hid (fun W => compare_any p (ofP p.six a n) W f HR.out)
  have h6 := fun W => pcheck_any (ofP p.six a n) W HR.out
  rw [hk, if_pos rfl] at h6
  have H6 := Lib.hid h6
  have h7 := fun W => has_any (ofP p.six a n) a W HR.out ha
  rw [hh] at h7
  have H7 := Lib.hid h7
  have h8 := fun W => compare_any (ofP p.six a n) p W HR.out f
  rw [cmpP_anti p (ofP p.six a n)] at h8
  have H8 := Lib.hid h8
  have HQ := Lib.hid (parP_len' (showP p))
  have HEQ := Lib.hid (cmp_eqP p (ofP p.six a n) (f.trans HR.out.symm))
  have hsm := cmp_small p (ofP p.six a n)
  have HT : Hid (chkP p = true → parP (showP p) = some p) := fun h => pfx_told h f
  rw [show p.val = .agg p.cells from rfl, show arrV a = .agg (byteVals a).toArray from rfl]
  clear f ha f0 f1 _n0 _n1 hE h6 h7 h8 hk hh
  have HT2 : Hid (chkP p = true → (parP (showP p)).getD zeroP = p ∧ (parP (showP p)).isSome = true) := fun h => by rw [HT.out h]; exact ⟨rfl, rfl⟩
  clear HT
  generalize showP p = T at *
  generalize (parP T).getD zeroP = q at *
  generalize (parP T).isSome = is at *
  generalize hr : ofP p.six a n = r at *
  clear hr
  generalize hc : cmpP p r = c at *
  clear hc
  go_enter Tryd.func7, Tryd.ntmps7
  go_wp2_with (go_at_call 9; refine (HAw.out _ Z.out.2).mono ?_; rintro e w1 ⟨rfl, b1⟩; refine Hid.out ?_)
  refine Lib.hid ?_
  have Z1 := Lib.hid (Z.out.up b1)
  clear Z b1 HAw
  go_wp2_with (first | (refine wpList_load_pfx rfl (.tmp 3) rfl w.heap.size p HF.out rfl Z1.out.1.1 ?_) | (go_at_call 12; refine (H1.out _ Z1.out.2).mono ?_; rintro e w2 ⟨rfl, b2⟩; refine Hid.out ?_))
  refine Lib.hid ?_
  have Z2 := Lib.hid (Z1.out.up b2)
  clear Z1 b2 H1
  go_wp2_with (go_at_call 26; refine (H2.out _ Z2.out.2).mono ?_; rintro e w3 ⟨rfl, b3⟩; refine Hid.out ?_)
  refine Lib.hid ?_
  have Z3 : Hid (BaZ w p a (w3.alloc (.cells q.cells 24)) ∧ PfxT (w3.alloc (.cells q.cells 24)) w3.heap.size q) := ⟨(Z2.out.up b3).al _, pfxT_new w3 q⟩
  clear Z2 b3 H2
  go_upto_region 5 with (refine wpList_store_newP rfl (.tmp 8) (.tmp 19) rfl q HQ.out _ rfl rfl rfl ?_)
  generalize w3.heap.size = g8 at *
  generalize hck : chkP p = ck at *
  clear hck
  go_cut [9, 32] from 15 to 32 (fun _ c wx => c = .bool false ∧ BaZ w p a wx)
  case first =>
    cases ck
    · go_wp2_with (first | (refine wpList_load_pfx rfl (.tmp 3) rfl w.heap.size p HF.out rfl Z3.out.1.1.1 ?_) | (go_at_call 10; refine (H3.out _).mono ?_; rintro e w4 ⟨rfl, b4⟩; refine Hid.out ?_))
      refine Lib.hid ?_
      have Z4 := Lib.hid (Z3.out.1.up b4)
      clear b4
      go_wp2_with fail
      go_meet
      exact ⟨rfl, Z4.out⟩
    · obtain ⟨hqp, his⟩ := HT2.out rfl
      have HQP : Hid (eqP q p = true) := eqP_iff.2 hqp
      rw [his]
      clear hqp his
      go_wp2_with (first | (refine wpList_load_pfx rfl (.tmp 3) rfl w.heap.size p HF.out rfl Z3.out.1.1.1 ?_) | (go_at_call 10; refine (H3.out _).mono ?_; rintro e w4 ⟨rfl, b4⟩; refine Hid.out ?_))
      refine Lib.hid ?_
      have Z4 : Hid (BaZ w p a w4 ∧ PfxT w4 g8 q) := ⟨Z3.out.1.up b4, Z3.out.2.up b4⟩
      clear b4
      go_wp2_with (first | (refine wpList_load_pfxG rfl (.tmp 8) rfl g8 q HQ.out rfl Z4.out.2 ?_) | (refine wpList_load_pfxG rfl (.tmp 3) rfl w.heap.size p HF.out rfl Z4.out.1.1.1 ?_) | (refine wpList_neq_pfxGB rfl 25 26 _ rfl q p HQ.out HF.out false (by rw [HQP.out]; rfl) rfl rfl ?_))
      go_meet
      exact ⟨rfl, Z4.out.1⟩
  case rest =>
    obtain ⟨rfl, hz⟩ := hcut
    have Z4 := Lib.hid hz
    clear hz Z3 H3 HT2
    have c6 := Z4.out.1.1.six
    go_wp2_with (first | (refine wpList_load_arrT rfl (.tmp 4) rfl (w.heap.size + 1) a (by rw [HA16.out]; exact arr16P) rfl Z4.out.1.2.1 ?_) | (go_at_call 14; refine (H4.out _).mono ?_; rintro e w5 ⟨rfl, b5⟩; refine Hid.out ?_))
    refine Lib.hid ?_
    have Z5 : Hid (BaZ w p a (w5.alloc (.cells r.cells 24)) ∧ PfxT (w5.alloc (.cells r.cells 24)) w5.heap.size r) := ⟨(Z4.out.up b5).al _, pfxT_new w5 r⟩
    clear Z4 b5 H4 c6
    go_wp2_with (first | (refine wpList_store_newP rfl (.tmp 10) (.tmp 37) rfl r HR.out _ rfl rfl rfl ?_) | (refine wpList_load_pfx rfl (.tmp 3) rfl w.heap.size p HF.out rfl Z5.out.1.1.1 ?_) | (refine wpList_load_pfx rfl (.tmp 10) rfl w5.heap.size r HR.out rfl Z5.out.2 ?_) | (go_at_call 24; refine (H5.out _).mono ?_; rintro e w6 ⟨rfl, b6⟩; refine Hid.out ?_))
    refine Lib.hid ?_
    have Z6 : Hid (BaZ w p a w6 ∧ PfxT w6 w5.heap.size r) := ⟨Z5.out.1.up b6, Z5.out.2.up b6⟩
    clear Z5 b6 H5
    generalize w5.heap.size = g10 at *
    go_wp2_with (first | (refine wpList_load_pfx rfl (.tmp 10) rfl g10 r HR.out rfl Z6.out.2 ?_) | (go_at_call 10; refine (H6.out _).mono ?_; rintro e w7 ⟨rfl, b7⟩; refine Hid.out ?_))
    refine Lib.hid ?_
    have Z7 : Hid (BaZ w p a w7 ∧ PfxT w7 g10 r) := ⟨Z6.out.1.up b7, Z6.out.2.up b7⟩
    clear Z6 b7 H6
    go_wp2_with (first | (refine wpList_load_pfxG rfl (.tmp 10) rfl g10 r HR.out rfl Z7.out.2 ?_) | (refine wpList_load_arrG rfl (.tmp 4) rfl (w.heap.size + 1) a (by rw [HA16.out]; exact arr16P) rfl Z7.out.1.1.2.1 ?_) | (go_at_call 16; refine (H7.out _).mono ?_; rintro e w8 ⟨rfl, b8⟩; refine Hid.out ?_))
    refine Lib.hid ?_
    have Z8 : Hid (BaZ w p a w8 ∧ PfxT w8 g10 r) := ⟨Z7.out.1.up b8, Z7.out.2.up b8⟩
    clear Z7 b8 H7
    go_wp2_with (first | (refine wpList_load_pfxG rfl (.tmp 10) rfl g10 r HR.out rfl Z8.out.2 ?_) | (refine wpList_load_pfxG rfl (.tmp 3) rfl w.heap.size p HF.out rfl Z8.out.1.1.1 ?_) | (go_at_call 24; refine (H8.out _).mono ?_; rintro e w9 ⟨rfl, b9⟩; refine Hid.out ?_))
    refine Lib.hid ?_
    have Z9 : Hid (BaZ w p a w9 ∧ PfxT w9 g10 r) := ⟨Z8.out.1.up b9, Z8.out.2.up b9⟩
    clear Z8 b9 H8
    by_cases hc0 : c = 0
    · have HD : Hid (eqP p r = true) := by
        show eqP p r = true
        rw [← HEQ.out]
        exact decide_eq_true hc0
      subst hc0
      go_wp2_with (first | (refine wpList_load_pfxG rfl (.tmp 10) rfl g10 r HR.out rfl Z9.out.2 ?_) | (refine wpList_load_pfxG rfl (.tmp 3) rfl w.heap.size p HF.out rfl Z9.out.1.1.1 ?_) | (refine wpList_eql_pfxGB rfl 60 61 _ rfl p r HF.out HR.out true HD.out rfl rfl ?_))
      go_ret
      exact ⟨rfl, Z9.out.1.1.2.2⟩
    · have HD : Hid (eqP p r = false) := by
        show eqP p r = false
        rw [← HEQ.out]
        exact decide_eq_false hc0
      go_wp2_with (first | (refine wpList_load_pfxG rfl (.tmp 10) rfl g10 r HR.out rfl Z9.out.2 ?_) | (refine wpList_load_pfxG rfl (.tmp 3) rfl w.heap.size p HF.out rfl Z9.out.1.1.1 ?_) | (refine wpList_eql_pfxGB rfl 60 61 _ rfl p r HF.out HR.out false HD.out rfl rfl ?_))
      go_ret
      exact ⟨by show Ending.returned (.bool (!(c == 0))) = _; rw [beq_eq_false_iff_ne.2 hc0]; rfl, Z9.out.1.1.2.2⟩
end Go.Proofs.YtlbgmpjeckigjaaDoor

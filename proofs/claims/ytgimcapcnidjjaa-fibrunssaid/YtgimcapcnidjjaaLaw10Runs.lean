/- FibRuns: any script of puts and deletes of both kinds is answered as the document's is. -/
import Derived.Test.YtgimcapcnidjjaaDuo10
import Derived.Test.YtgimcapcnidjjaaH10
namespace Go.Proofs.Ytgimcapcnidjjaa
open Go Go.RowKit

theorem st_info10 {s : Stp} (h : s.p.addr.length = 16) : (Try.prog.info? 36).map (·.size) = some (stF s).length := by rw [stF_len h]; kernel_rfl
theorem st_one (s : Stp) : ∀ v ∈ stF s, v.oneCell' = true := by
  intro v hv
  unfold stF at hv
  rcases List.mem_cons.1 hv with rfl | hv
  · rfl
  · rcases List.mem_append.1 hv with hv | hv
    · exact row_one s.p v hv
    · rw [List.mem_singleton.1 hv]; rfl
theorem step_row {W : World} {a : Option Addr} {n cap : Nat} {l : List Stp} (h : IsC stF 20 W (.slice a n cap) l) (j : Nat) (s : Stp) (hs : l[j]? = some s) : ∃ b k, a = some ⟨b, k, none⟩ ∧ b < W.heap.size ∧ W.rangeAt b (k + j * 20) (stF s) := by
  obtain ⟨_, _, _, h3⟩ := h.shape
  have hlt := (List.getElem?_eq_some_iff.1 hs).1
  obtain ⟨b, k, rfl, hb, hr⟩ := h3 (by omega)
  exact ⟨b, k, rfl, hb, flat_range h.1 hr j s hs⟩
/-- Both made, whatever the room. -/
theorem news (room : Int) : ∃ (is : Bool) (rd : Int), (∀ W, Calls Try.prog 7 #[.int .i64 room] W fun e w' => ∃ pt X, e = .returned pt ∧ FibQ w' X pt is rd (fun _ => []) 1 ∧ Below W.heap.size W w' ∧ ∀ k, X k → W.heap.size ≤ k) ∧
    ∀ W, Calls Try.prog 8 #[.int .i64 room] W fun e w' => e = .returned (fV is rd (fun _ => nilS)) ∧ Below W.heap.size W w' := by
  by_cases h : 1 ≤ room ∧ room ≤ 65536
  · refine ⟨true, room, fun W => (fnew room W h.1 h.2).mono ?_, fun W => gnew room W h.1 h.2⟩
    rintro e w' ⟨g, X, rfl, h1, h2, h3⟩
    exact ⟨_, X, rfl, h1, h2, h3⟩
  · refine ⟨false, 0, fun W => (fnew_none room W (by omega)).mono ?_, fun W => gnew_none room W (by omega)⟩
    rintro e w' ⟨rfl, rfl⟩
    exact ⟨_, fun _ => False, rfl, FibQ.nil _ 0 1, Below.refl _ _, fun k hk => hk.elim⟩
theorem DuF.orderA {w W : World} {O : Nat → Prop} {pt : Value} {is : Bool} {room : Int} {LT LR : Bool → List (Pfx × Int)} {N bF : Nat} {D : Bool → Sl} (h : DuF w O pt is room LT N bF LR D W) (s : Bool) : InOrder cmpP (okP s) (LT s) := by
  obtain ⟨X, ⟨pp, Y, h1⟩, _⟩ := h.tab
  rcases h1.tab s with ⟨rfl, g, _, h2, _⟩ | ⟨_, _, e, _⟩
  · have := h2.order
    rwa [Bool.and_true] at this
  · rw [e]; exact InOrder.nil
theorem updL_len (L : Bool → List (Pfx × Int)) (s : Bool) (M : List (Pfx × Int)) (n : Nat) (h : ∀ t, (L t).length ≤ n) (hM : M.length ≤ n + 1) (t : Bool) : (updL L s M t).length ≤ n + 1 := by
  unfold updL
  split
  · exact hM
  · have := h t; omega
theorem fputL_len (is : Bool) (room : Int) (L : Bool → List (Pfx × Int)) (p : Pfx) (x : Int) (n : Nat) (h : ∀ t, (L t).length ≤ n) (t : Bool) : (fputL is room L p x t).length ≤ n + 1 :=
  updL_len L _ _ n h (by have := rputL_len is (p.six && is) room (L p.six) p x; have := h p.six; omega) t
theorem fdelL_len (is : Bool) (L : Bool → List (Pfx × Int)) (p : Pfx) (n : Nat) (h : ∀ t, (L t).length ≤ n) (t : Bool) : (fdelL is L p t).length ≤ n + 1 :=
  updL_len L _ _ n h (by have := rdelL_len is (p.six && is) (L p.six) p; have := h p.six; omega) t
/-- What lies there within a round: both, the step's box, the law's prefix. -/
structure RnF (w : World) (p : Pfx) (pt : Value) (is : Bool) (room : Int) (LT : Bool → List (Pfx × Int)) (N bF : Nat) (LR : Bool → List (Pfx × Int)) (D : Bool → Sl) (SB : Nat) (s : Stp) (W : World) : Prop where
  z : DuF w (fun k => k = w.heap.size ∨ k = SB) pt is room LT N bF LR D W
  st : Bx W SB 36 (stF s)
  p : Bx W w.heap.size 25 p.row
section
variable {w W W' : World} {p : Pfx} {pt : Value} {is : Bool} {room : Int} {LT LR : Bool → List (Pfx × Int)} {N bF SB : Nat} {D : Bool → Sl} {s : Stp}
theorem RnF.up (h : RnF w p pt is room LT N bF LR D SB s W) (hb : Below W.heap.size W W') : RnF w p pt is room LT N bF LR D SB s W' := ⟨h.z.up hb, h.st.up hb, h.p.up hb⟩
theorem RnF.six (h : RnF w p pt is room LT N bF LR D SB s W) : W.cell? ⟨SB, 1, none⟩ = some (.bool s.p.six) := by rw [h.st.cell]; rfl
theorem RnF.v (h : RnF w p pt is room LT N bF LR D SB s W) (h16 : s.p.addr.length = 16) : W.cell? ⟨SB, 19, none⟩ = some (.int .i64 s.v) := by
  rw [h.st.cell]
  unfold stF
  rw [List.getElem?_cons_succ, List.getElem?_append_right (by rw [row_len h16]; omega), row_len h16]
  rfl
theorem RnF.pfx (h : RnF w p pt is room LT N bF LR D SB s W) : W.rangeAt SB 1 s.p.row := h.st.range 1 s.p.row (by unfold stF; simp)
theorem RnF.adr (h : RnF w p pt is room LT N bF LR D SB s W) : W.rangeAt SB 2 (byteVals s.p.addr) := h.st.range 2 _ (by unfold stF Pfx.row; simp)
theorem RnF.f (h : RnF w p pt is room LT N bF LR D SB s W) : W.rangeAt bF 0 (fR is room D) := rangeAll h.z.ref
end
def HeldR10 (C1 C2 bF SB : Nat) (m l : List Value) (y v : Int) (W : World) : Prop := W.rangeAt C1 0 m ∧ W.rangeAt C2 0 m ∧ W.cell? ⟨C1, 18, none⟩ = some (.int .i64 y) ∧ W.cell? ⟨C2, 18, none⟩ = some (.int .i64 y) ∧ W.rangeAt bF 0 l ∧ W.cell? ⟨SB, 19, none⟩ = some (.int .i64 v)
def HeldS10 (bF B : Nat) (l m : List Value) (W : World) : Prop := W.rangeAt bF 0 l ∧ W.rangeAt B 0 m
set_option maxRecDepth 100000 in
set_option maxHeartbeats 20000000 in
theorem runs_walk (room : Int) (sa : Option Addr) (sn scap : Nat) (st : List Stp) (p : Pfx) (w : World) (_r0 : -9223372036854775808 ≤ room) (_r1 : room ≤ 9223372036854775807) (hS : IsC stF 20 w (.slice sa sn scap) st) (hok : ∀ s ∈ st, s.p.addr.length = 16) (hp : p.addr.length = 16) (_h0 : -9223372036854775808 ≤ p.len) (_h1 : p.len ≤ 9223372036854775807) :
    Calls Try.prog 3 #[.int .i64 room, .slice sa sn scap, p.val] w fun e w' => e = .returned (.bool true) ∧ Below w.heap.size w w' := by
  have HA := Lib.hid (fun W => awake10 W)
  have hb : Below w.heap.size w (w.alloc (.cells p.row.toArray 25)) := (Below.refl _ _).alloc (Nat.le_refl _) _
  have HX := Lib.hid (Bx.new w 25 p.row)
  have HB := Lib.hid hb
  have HSC := Lib.hid hS
  have HOK := Lib.hid hok
  have HP := Lib.hid hp
  obtain ⟨rfl, hcap, hcm, _⟩ := hS.shape
  unfold maxLen at hcm
  rw [show p.val = .agg p.row.toArray from rfl]
  clear hS hok hp hb _r0 _r1 _h0 _h1
  by_cases h50 : 50 < st.length
  · have h50i : (50 : Int) < (st.length : Int) := by omega
    go_enter Try.func3, Try.ntmps3
    go_wp2_with (go_at_call 6; refine (HA.out _).mono ?_; rintro e w1 ⟨rfl, b1⟩; refine Hid.out ?_)
    refine Lib.hid ?_
    go_wp2
    go_ret
    exact ⟨rfl, below_up HB.out b1 HB.out.size⟩
  have h50i : (st.length : Int) ≤ 50 := by omega
  obtain ⟨is, rd, hN, hG⟩ := news room
  have HN := Lib.hid hN
  have HG := Lib.hid hG
  clear hN hG
  go_enter Try.func3, Try.ntmps3
  go_wp2_with (go_at_call 6; refine (HA.out _).mono ?_; rintro e w1 ⟨rfl, b1⟩; refine Hid.out ?_)
  refine Lib.hid ?_
  have B1 := Lib.hid (below_up HB.out b1 HB.out.size)
  have X1 := Lib.hid (HX.out.up b1)
  clear HB HX b1
  go_wp2_with (go_at_call 7; refine (HN.out _).mono ?_; rintro e w2 ⟨pt, X, rfl, t2, b2, xx2⟩; refine Hid.out ?_)
  refine Lib.hid ?_
  have B2 := Lib.hid (below_up B1.out b2 B1.out.size)
  have X2 := Lib.hid (X1.out.up b2)
  have T2 := Lib.hid t2
  have XX : Hid (∀ k, X k → w.heap.size + 1 ≤ k) := Lib.hid (fun k hk => by have := xx2 k hk; have := X1.out.lt; omega)
  clear B1 X1 t2 b2 xx2 HN
  go_wp2_with (go_at_call 8; refine (HG.out _).mono ?_; rintro e w3 ⟨rfl, b3⟩; refine Hid.out ?_)
  refine Lib.hid ?_
  have hbA : Below w3.heap.size w3 (w3.alloc (.cells (fR is rd (fun _ => nilS)).toArray 33)) := (Below.refl _ _).alloc (Nat.le_refl _) _
  have hb3 := below_up B2.out b3 B2.out.size
  have hz4 : DuF w (fun k => k = w.heap.size) pt is rd (fun _ => []) 1 w3.heap.size (fun _ => []) (fun _ => nilS) (w3.alloc (.cells (fR is rd (fun _ => nilS)).toArray 33)) :=
    ⟨⟨X, (T2.out.up b3).up hbA, fun k hk => by have := XX.out k hk; omega, fun hx => by have := (T2.out.up b3).low _ hx; omega, fun k hk => ⟨fun hx => by have := XX.out k hx; omega, by
      have := X2.out.lt
      have := b3.size
      rw [hk, World.size_alloc]
      omega⟩, fun s h0 => by cases h0⟩, Bx.new w3 33 (fR is rd (fun _ => nilS)), fun s => IsC.nil _, hb3.size, below_up hb3 hbA hb3.size⟩
  have HZ4 := Lib.hid hz4
  have X4 := Lib.hid ((X2.out.up b3).up hbA)
  clear hz4 hb3 hbA b3 B2 X2 T2 XX HG
  rw [show fV is rd (fun _ => nilS) = .agg (fR is rd (fun _ => nilS)).toArray from rfl]
  go_wp2_with (refine wpList_store_fresh rfl 33 (.tmp 9) (.tmp 35) rfl (fR is rd (fun _ => nilS)) _ w3.heap.size rfl rfl rfl f_info rfl (f_one _ _ _) ?_; refine Hid.out ?_)
  refine Lib.hid ?_
  generalize w3.alloc (.cells (fR is rd (fun _ => nilS)).toArray 33) = W4 at *
  generalize w3.heap.size = bF at *
  go_wp2
  go_loopw [10] (fun r wr => ∃ (i : Nat) (L : Bool → List (Pfx × Int)) (D : Bool → Sl), i ≤ st.length ∧ r = .int .i64 (i : Int) ∧ (∀ s, (L s).length ≤ i) ∧ DuF w (fun k => k = w.heap.size) pt is rd L (1 + 150 * i) bF L D wr ∧ Bx wr w.heap.size 25 p.row) (fun r _ => st.length - (intOf r).toNat)
  case atStart => exact ⟨0, fun _ => [], fun _ => nilS, by omega, rfl, fun _ => Nat.le_refl _, HZ4.out, X4.out⟩
  case round =>
    obtain ⟨i, L, D, hi, rfl, hL, hz, hpx⟩ := hrel
    clear HZ4 X4
    by_cases hie : i = st.length
    · subst hie
      have HL : Hid (∀ s, (L s).length ≤ 400000) := Lib.hid (fun s => by have := hL s; omega)
      have HN4 : Hid (1 + 150 * st.length ≤ 400000) := Lib.hid (by omega)
      have HO : Hid (∀ s, InOrder cmpP (okP s) (L s)) := Lib.hid hz.orderA
      have HHE := Lib.hid (fun W (hW : Below wr.heap.size wr W) => (⟨rangeAll (hz.ref.up hW), rangeAll (hpx.up hW)⟩ : HeldS10 bF w.heap.size (fR is rd D) p.row W))
      have HZ := Lib.hid (fun W (hW : Below wr.heap.size wr W) => hz.up hW)
      have HFQ : Hid (∀ W, Below wr.heap.size wr W → ∃ X, FibQ W X pt is rd L (1 + 150 * st.length)) := Lib.hid (fun W hW => by
        obtain ⟨X, h1, _⟩ := (hz.up hW).tab
        exact ⟨X, h1⟩)
      clear hz hpx hL
      generalize 1 + 150 * st.length = N at *
      have HALL := Lib.hid (fun W (hW : Below wr.heap.size wr W) => by
        obtain ⟨X, h⟩ := HFQ.out W hW
        exact fall h HN4.out)
      have HABO := Lib.hid (fun W (hW : Below wr.heap.size wr W) => by
        obtain ⟨X, h⟩ := HFQ.out W hW
        exact fabove p h HN4.out HP.out)
      have HBEL := Lib.hid (fun W (hW : Below wr.heap.size wr W) => by
        obtain ⟨X, h⟩ := HFQ.out W hW
        exact fbelow p h HN4.out HP.out)
      have GALL := Lib.hid (fun W (hW : Below wr.heap.size wr W) => gall is rd D L W (HZ.out W hW).lst HL.out)
      have GABO := Lib.hid (fun W (hW : Below wr.heap.size wr W) => gabove is rd D L p W (HZ.out W hW).lst HL.out HP.out HO.out)
      have GBEL := Lib.hid (fun W (hW : Below wr.heap.size wr W) => gbelow is rd D L p W (HZ.out W hW).lst HL.out HP.out (fun s x hx => ((HO.out s).2 x hx).1))
      have HBW := Lib.hid (HZ.out wr (Below.refl _ _)).below
      clear HZ HFQ HO HL HN4
      generalize kindL L = M at *
      generalize abvL p (L p.six) = MA at *
      generalize belL p (L p.six) = MB at *
      go_wp2
      refine wp_region_noPanic ?_
      refine wp_region_held_drew (S := HeldS10 bF w.heap.size (fR is rd D) p.row) (by kernel_rfl) (HHE.out _ (Below.refl _ _).drew) (fun hHeld => ?_)
      have B0 := Lib.hid (Below.refl wr.heap.size wr).drew
      refine held_take (v := ?v163) 0 rfl (by kernel_rfl) (by kernel_rfl) (by kernel_rfl) (fun _ _ _ h => h) (by rfl) ?y163 (by assumption) ?_
      case y163 => (intro w hSw; unfold HeldS10 at hSw; go_simp; (try with_reducible rfl); (try omega))
      simp only [List.setIfInBounds_toArray, List.set_cons_zero, List.set_cons_succ]
      refine held_take (v := fV is rd D) 2 rfl (by kernel_rfl) (by kernel_rfl) (by kernel_rfl) (fun _ _ _ h => h) (by rfl) (fun W hSw => exec_load_any _ (.tmp 9) rfl bF 0 (fR is rd D) _ rfl hSw.1 Try.underlying33 rfl f_info) (by assumption) ?_
      simp only [List.setIfInBounds_toArray, List.set_cons_zero, List.set_cons_succ]
      refine held_one 1 rfl (by kernel_rfl) (by rfl) (fun K hK => ?_)
      go_simp
      refine (HALL.out _ B0.out).mono ?_
      rintro e W1 ⟨a1, c1, rfl, l1, b1⟩
      have B1 := Lib.hid (B0.out.trans (b1.mono B0.out.size))
      refine hK.out _ _ (HHE.out _ B1.out) (fun _ => ?_)
      clear hK K b1 B0 HALL hHeld
      refine held_one 3 rfl (by kernel_rfl) (by rfl) (fun K hK => ?_)
      go_simp
      refine (GALL.out _ B1.out).mono ?_
      rintro e W2 ⟨a2, c2, rfl, l2, b2⟩
      have B2 := Lib.hid (B1.out.trans (b2.mono B1.out.size))
      have S2 := Lib.hid (same10 W2 (l1.below b2) l2)
      refine hK.out _ _ (HHE.out _ B2.out) (fun _ => ?_)
      clear hK K b2 l1 l2 B1 GALL
      refine held_one 4 rfl (by kernel_rfl) (by rfl) (fun K hK => ?_)
      go_simp
      refine S2.out.mono ?_
      rintro e W3 ⟨rfl, b3⟩
      have B3 := Lib.hid (B2.out.trans (b3.mono B2.out.size))
      refine hK.out _ _ (HHE.out _ B3.out) (fun _ => ?_)
      clear hK K b3 B2 S2
      refine held_take (v := ?v190) 5 rfl (by kernel_rfl) (by kernel_rfl) (by kernel_rfl) (fun _ _ _ h => h) (by rfl) ?y190 (by assumption) ?_
      case y190 => (intro w hSw; unfold HeldS10 at hSw; go_simp; (try with_reducible rfl); (try omega))
      simp only [List.setIfInBounds_toArray, List.set_cons_zero, List.set_cons_succ]
      refine held_take (v := ?v193) 6 rfl (by kernel_rfl) (by kernel_rfl) (by kernel_rfl) (fun _ _ _ h => h) (by rfl) ?y193 (by assumption) ?_
      case y193 => (intro w hSw; unfold HeldS10 at hSw; go_simp; (try with_reducible rfl); (try omega))
      simp only [List.setIfInBounds_toArray, List.set_cons_zero, List.set_cons_succ]
      refine held_take (v := p.val) 7 rfl (by kernel_rfl) (by kernel_rfl) (by kernel_rfl) (fun _ _ _ h => h) (by rfl) (fun W hSw => exec_load_any _ (.tmp 5) rfl w.heap.size 0 p.row _ rfl hSw.2 Try.underlying25 rfl (pf_infoC HP.out)) (by assumption) ?_
      simp only [List.setIfInBounds_toArray, List.set_cons_zero, List.set_cons_succ]
      refine held_take (v := fV is rd D) 9 rfl (by kernel_rfl) (by kernel_rfl) (by kernel_rfl) (fun _ _ _ h => h) (by rfl) (fun W hSw => exec_load_any _ (.tmp 9) rfl bF 0 (fR is rd D) _ rfl hSw.1 Try.underlying33 rfl f_info) (by assumption) ?_
      simp only [List.setIfInBounds_toArray, List.set_cons_zero, List.set_cons_succ]
      refine held_take (v := p.val) 10 rfl (by kernel_rfl) (by kernel_rfl) (by kernel_rfl) (fun _ _ _ h => h) (by rfl) (fun W hSw => exec_load_any _ (.tmp 5) rfl w.heap.size 0 p.row _ rfl hSw.2 Try.underlying25 rfl (pf_infoC HP.out)) (by assumption) ?_
      simp only [List.setIfInBounds_toArray, List.set_cons_zero, List.set_cons_succ]
      refine held_one 8 rfl (by kernel_rfl) (by rfl) (fun K hK => ?_)
      go_simp
      refine (HABO.out _ B3.out).mono ?_
      rintro e W4' ⟨a4, c4, rfl, l4, b4⟩
      have B4 := Lib.hid (B3.out.trans (b4.mono B3.out.size))
      refine hK.out _ _ (HHE.out _ B4.out) (fun _ => ?_)
      clear hK K b4 B3 HABO
      refine held_one 11 rfl (by kernel_rfl) (by rfl) (fun K hK => ?_)
      go_simp
      refine (GABO.out _ B4.out).mono ?_
      rintro e W5 ⟨a5, c5, rfl, l5, b5⟩
      have B5 := Lib.hid (B4.out.trans (b5.mono B4.out.size))
      have S5 := Lib.hid (same10 W5 (l4.below b5) l5)
      refine hK.out _ _ (HHE.out _ B5.out) (fun _ => ?_)
      clear hK K b5 l4 l5 B4 GABO
      refine held_one 12 rfl (by kernel_rfl) (by rfl) (fun K hK => ?_)
      go_simp
      refine S5.out.mono ?_
      rintro e W6 ⟨rfl, b6⟩
      have B6 := Lib.hid (B5.out.trans (b6.mono B5.out.size))
      refine hK.out _ _ (HHE.out _ B6.out) (fun _ => ?_)
      clear hK K b6 B5 S5
      refine held_take (v := ?v224) 13 rfl (by kernel_rfl) (by kernel_rfl) (by kernel_rfl) (fun _ _ _ h => h) (by rfl) ?y224 (by assumption) ?_
      case y224 => (intro w hSw; unfold HeldS10 at hSw; go_simp; (try with_reducible rfl); (try omega))
      simp only [List.setIfInBounds_toArray, List.set_cons_zero, List.set_cons_succ]
      refine held_take (v := ?v227) 14 rfl (by kernel_rfl) (by kernel_rfl) (by kernel_rfl) (fun _ _ _ h => h) (by rfl) ?y227 (by assumption) ?_
      case y227 => (intro w hSw; unfold HeldS10 at hSw; go_simp; (try with_reducible rfl); (try omega))
      simp only [List.setIfInBounds_toArray, List.set_cons_zero, List.set_cons_succ]
      refine held_take (v := ?v230) 15 rfl (by kernel_rfl) (by kernel_rfl) (by kernel_rfl) (fun _ _ _ h => h) (by rfl) ?y230 (by assumption) ?_
      case y230 => (intro w hSw; unfold HeldS10 at hSw; go_simp; (try with_reducible rfl); (try omega))
      simp only [List.setIfInBounds_toArray, List.set_cons_zero, List.set_cons_succ]
      refine held_take (v := p.val) 16 rfl (by kernel_rfl) (by kernel_rfl) (by kernel_rfl) (fun _ _ _ h => h) (by rfl) (fun W hSw => exec_load_any _ (.tmp 5) rfl w.heap.size 0 p.row _ rfl hSw.2 Try.underlying25 rfl (pf_infoC HP.out)) (by assumption) ?_
      simp only [List.setIfInBounds_toArray, List.set_cons_zero, List.set_cons_succ]
      refine held_take (v := fV is rd D) 18 rfl (by kernel_rfl) (by kernel_rfl) (by kernel_rfl) (fun _ _ _ h => h) (by rfl) (fun W hSw => exec_load_any _ (.tmp 9) rfl bF 0 (fR is rd D) _ rfl hSw.1 Try.underlying33 rfl f_info) (by assumption) ?_
      simp only [List.setIfInBounds_toArray, List.set_cons_zero, List.set_cons_succ]
      refine held_take (v := p.val) 19 rfl (by kernel_rfl) (by kernel_rfl) (by kernel_rfl) (fun _ _ _ h => h) (by rfl) (fun W hSw => exec_load_any _ (.tmp 5) rfl w.heap.size 0 p.row _ rfl hSw.2 Try.underlying25 rfl (pf_infoC HP.out)) (by assumption) ?_
      simp only [List.setIfInBounds_toArray, List.set_cons_zero, List.set_cons_succ]
      refine held_one 17 rfl (by kernel_rfl) (by rfl) (fun K hK => ?_)
      go_simp
      refine (HBEL.out _ B6.out).mono ?_
      rintro e W7 ⟨a7, c7, rfl, l7, b7⟩
      have B7 := Lib.hid (B6.out.trans (b7.mono B6.out.size))
      refine hK.out _ _ (HHE.out _ B7.out) (fun _ => ?_)
      clear hK K b7 B6 HBEL
      refine held_one 20 rfl (by kernel_rfl) (by rfl) (fun K hK => ?_)
      go_simp
      refine (GBEL.out _ B7.out).mono ?_
      rintro e W8 ⟨a8, c8, rfl, l8, b8⟩
      have B8 := Lib.hid (B7.out.trans (b8.mono B7.out.size))
      have S8 := Lib.hid (same10 W8 (l7.below b8) l8)
      refine hK.out _ _ (HHE.out _ B8.out) (fun _ => ?_)
      clear hK K b8 l7 l8 B7 GBEL
      refine held_one 21 rfl (by kernel_rfl) (by rfl) (fun K hK => ?_)
      go_simp
      refine S8.out.mono ?_
      rintro e W9 ⟨rfl, b9⟩
      have B9 := Lib.hid (B8.out.trans (b9.mono B8.out.size))
      refine hK.out _ _ (HHE.out _ B9.out) (fun _ => ?_)
      clear hK K b9 B8 S8
      refine held_take (v := ?v261) 22 rfl (by kernel_rfl) (by kernel_rfl) (by kernel_rfl) (fun _ _ _ h => h) (by rfl) ?y261 (by assumption) ?_
      case y261 => (intro w hSw; unfold HeldS10 at hSw; go_simp; (try with_reducible rfl); (try omega))
      simp only [List.setIfInBounds_toArray, List.set_cons_zero, List.set_cons_succ]
      refine held_take (v := ?v264) 23 rfl (by kernel_rfl) (by kernel_rfl) (by kernel_rfl) (fun _ _ _ h => h) (by rfl) ?y264 (by assumption) ?_
      case y264 => (intro w hSw; unfold HeldS10 at hSw; go_simp; (try with_reducible rfl); (try omega))
      simp only [List.setIfInBounds_toArray, List.set_cons_zero, List.set_cons_succ]
      refine wpAnyH_done (by kernel_rfl) ?_ _
      refine NoPanic.normal ?_
      go_wp2
      go_ret
      exact ⟨rfl, below_up HBW.out B9.out HBW.out.size⟩
    · have hlt : i < st.length := by omega
      obtain ⟨s, hs⟩ : ∃ s, st[i]? = some s := ⟨_, List.getElem?_eq_getElem hlt⟩
      have h16 := HOK.out s (List.mem_of_getElem? hs)
      obtain ⟨b, k, rfl, hbw, q0⟩ := step_row (HSC.out.below hz.below) i s hs
      have hii : (i : Int) < (st.length : Int) := by omega
      have HQ := Lib.hid q0
      have H16 := Lib.hid h16
      have HL := Lib.hid hL
      have hbA : Below wr.heap.size wr (wr.alloc (.cells (stF s).toArray 36)) := (Below.refl _ _).alloc (Nat.le_refl _) _
      have hz1 : RnF w p pt is rd L (1 + 150 * i) bF L D wr.heap.size s (wr.alloc (.cells (stF s).toArray 36)) :=
        ⟨hz.with hbA _ (fun k hk => hk.elim .inl (fun e => .inr (by rw [World.size_alloc]; omega))), Bx.new wr _ _, hpx.up hbA⟩
      have HZ1 := Lib.hid hz1
      have hne : wr.heap.size ≠ bF := by have := hz.ref.lt; omega
      have hnp : w.heap.size ≠ bF := fun e => by
        have h1 : wr.heap[bF]? = some (.cells p.row.toArray 25 (0, 0)) := e ▸ hpx
        have h2 : wr.heap[bF]? = some (.cells (fR is rd D).toArray 33 (0, 0)) := hz.ref
        rw [h1] at h2
        exact absurd (Obj.cells.inj (Option.some.inj h2)).2.1 (by decide)
      have HNE := Lib.hid (⟨hne, hnp⟩ : _ ∧ _)
      clear q0 h16 hL hbA hz1 hz hpx hs hne hnp
      go_wp2_with (first
        | (refine plV rfl (.agg (stF s).toArray) (exec_load_any _ (.tmp 44) rfl b (k + i * 20) (stF s) _ rfl HQ.out Try.underlying36 rfl (st_info10 H16.out)) ?_)
        | (refine wpList_store_fresh rfl 36 (.tmp 11) (.tmp 45) rfl (stF s) _ wr.heap.size rfl rfl rfl (st_info10 H16.out) (by rw [stF_len H16.out]; rfl) (st_one s) ?_; refine Hid.out ?_))
      refine Lib.hid ?_
      generalize wr.alloc (.cells (stF s).toArray 36) = W1 at *
      generalize wr.heap.size = SB at *
      have c0 : W1.cell? ⟨SB, 0, none⟩ = some (.int .i64 s.k) := by rw [HZ1.out.st.cell]; rfl
      have c19 := HZ1.out.v H16.out
      by_cases hk0 : s.k = 0
      · -- put
        rw [hk0] at c0
        have R1 := Lib.hid HZ1.out.pfx
        have HPU := Lib.hid (HZ1.out.z.put s.p s.v H16.out (by omega))
        clear hk0
        go_wp2_with (first
          | (refine plV rfl s.p.val (exec_load_any _ (.tmp 51) rfl SB 1 s.p.row _ rfl R1.out Try.underlying25 rfl (pf_infoC H16.out)) ?_)
          | (go_at_call 9; refine HPU.out.mono ?_; rintro e W2 ⟨rfl, z2, kp2⟩; refine Hid.out ?_))
        refine Lib.hid ?_
        have HZ2 : Hid (RnF w p pt is rd (fputL is rd L s.p s.v) (1 + 150 * i + 150) bF L D SB s W2) := Lib.hid ⟨z2, kp2 _ _ _ (.inr rfl) HZ1.out.st, kp2 _ _ _ (.inl rfl) HZ1.out.p⟩
        have R2 := Lib.hid HZ2.out.pfx
        have RF2 := Lib.hid HZ2.out.f
        have c19b := HZ2.out.v H16.out
        have HG2 := Lib.hid (gput is rd D L s.p s.v W2 HZ2.out.z.lst H16.out (fun t => by have := HL.out t; omega))
        clear z2 kp2 HPU HZ1 R1 c0 c19
        go_wp2_with (first
          | (refine plV rfl (fV is rd D) (exec_load_any _ (.tmp 9) rfl bF 0 (fR is rd D) _ rfl RF2.out Try.underlying33 rfl f_info) ?_)
          | (refine plV rfl s.p.val (exec_load_any _ (.tmp 58) rfl SB 1 s.p.row _ rfl R2.out Try.underlying25 rfl (pf_infoC H16.out)) ?_)
          | (go_at_call 10; refine HG2.out.mono ?_; rintro e W3 ⟨⟨d, rfl, l3, d3⟩, b3⟩; refine Hid.out ?_))
        refine Lib.hid ?_
        have hbA : Below W3.heap.size W3 (W3.alloc (.cells (fR is rd (upS D s.p.six d)).toArray 33)) := (Below.refl _ _).alloc (Nat.le_refl _) _
        have hb23 := below_up b3 hbA b3.size
        obtain ⟨zs, ks⟩ := HZ2.out.z.settle (s := s.p.six) hb23 (l3.below hbA) d3
        have HZ5 : Hid (RnF w p pt is rd (fputL is rd L s.p s.v) (1 + 150 * i + 150) bF (fputL is rd L s.p s.v) (upS D s.p.six d) SB s ((W3.alloc (.cells (fR is rd (upS D s.p.six d)).toArray 33)).setRow bF (fR is rd (upS D s.p.six d)).toArray)) := Lib.hid ⟨zs, ks _ _ _ HNE.out.1 (HZ2.out.st.up hb23), ks _ _ _ HNE.out.2 (HZ2.out.p.up hb23)⟩
        have RT := Lib.hid (rangeAll (Bx.new W3 33 (fR is rd (upS D s.p.six d))))
        have HF5 := Lib.hid (HZ2.out.z.ref.up hb23)
        clear zs ks l3 d3 b3 hb23 hbA HZ2 HG2 R2 RF2
        (try clear c19b)
        rw [show fV is rd (upS D s.p.six d) = .agg (fR is rd (upS D s.p.six d)).toArray from rfl]
        go_wp2_with (refine wpList_store_fresh rfl 33 (.tmp 14) (.tmp 63) rfl (fR is rd (upS D s.p.six d)) _ W3.heap.size rfl rfl rfl f_info rfl (f_one _ _ _) ?_; refine Hid.out ?_)
        refine Lib.hid ?_
        go_wp2_with (first
          | (refine plV rfl (fV is rd (upS D s.p.six d)) (exec_load_any _ (.tmp 14) rfl W3.heap.size 0 (fR is rd (upS D s.p.six d)) _ rfl RT.out Try.underlying33 rfl f_info) ?_)
          | (refine wpList_store_bx rfl 33 (.tmp 9) (.tmp 65) rfl bF (fR is rd (upS D s.p.six d)) (fR is rd D) rfl rfl HF5.out f_info rfl (f_one _ _ _) ?_; refine Hid.out ?_))
        refine Lib.hid ?_
        clear RT HF5
        generalize (W3.alloc (.cells (fR is rd (upS D s.p.six d)).toArray 33)).setRow bF (fR is rd (upS D s.p.six d)).toArray = W5 at *
        have HLL : Hid (∀ t, (fputL is rd L s.p s.v t).length ≤ i + 1) := Lib.hid (fun t => fputL_len is rd L s.p s.v i HL.out t)
        generalize fputL is rd L s.p s.v = L1 at *
        generalize fputE is rd L s.p = cE at *
        generalize upS D s.p.six d = D1 at *
        have hx16 : ((lookT s.p.addr (L1 s.p.six)).getD it0).1.addr.length = 16 := by
          cases hl : lookT s.p.addr (L1 s.p.six) with
          | none => rfl
          | some y => exact ((HZ5.out.z.orderA s.p.six).2 y (look_mem _ _ y hl).1).2.1
        have HX16 := Lib.hid hx16
        have HLS : Hid (∀ t, (L1 t).length ≤ 400000) := Lib.hid (fun t => by have := HLL.out t; omega)
        have HNN : Hid (1 + 150 * i + 150 ≤ 400000) := Lib.hid (by omega)
        have c1 := HZ5.out.six
        have RA := Lib.hid HZ5.out.adr
        have HLK : Hid (∀ W, Below W5.heap.size W5 W → Calls Try.prog 13 #[pt, .bool s.p.six, arrV s.p.addr] W fun e w' => e = .returned (.tuple #[itV ((lookT s.p.addr (L1 s.p.six)).getD it0).1 ((lookT s.p.addr (L1 s.p.six)).getD it0).2, .bool (lookT s.p.addr (L1 s.p.six)).isSome]) ∧ Below W.heap.size W w') := Lib.hid (fun W hW => by
          obtain ⟨X, h1, _⟩ := (HZ5.out.z.up hW).tab
          exact flook s.p.six s.p.addr W h1 H16.out)
        have HGK := Lib.hid (fun W (hW : Below W5.heap.size W5 W) => glook is rd D1 L1 s.p.six s.p.addr W s.p.six (HZ5.out.z.orderA s.p.six) (HZ5.out.z.up hW).lst H16.out HLS.out)
        have HGT : Hid (∀ W, Below W5.heap.size W5 W → Calls Try.prog 15 #[pt, s.p.val] W fun e w' => e = .returned (.tuple #[.int .i64 ((getT cmpP s.p (L1 s.p.six)).getD 0), .bool (getT cmpP s.p (L1 s.p.six)).isSome]) ∧ Below W.heap.size W w') := Lib.hid (fun W hW => by
          obtain ⟨X, h1, _⟩ := (HZ5.out.z.up hW).tab
          exact fget s.p W h1 H16.out)
        have HGG := Lib.hid (fun W (hW : Below W5.heap.size W5 W) => gget is rd D1 L1 s.p W (HZ5.out.z.up hW).lst H16.out HLS.out)
        have HUS : Hid (∀ W, Below W5.heap.size W5 W → Calls Try.prog 17 #[pt, .int .i64 s.v] W fun e w' => e = .returned (.int .i64 ((useL s.v (kindL L1)).length : Int)) ∧ Below W.heap.size W w') := Lib.hid (fun W hW => by
          obtain ⟨X, h1, _⟩ := (HZ5.out.z.up hW).tab
          exact fuses s.v h1 HNN.out)
        have HGU := Lib.hid (fun W (hW : Below W5.heap.size W5 W) => guses is rd D1 L1 s.v W (HZ5.out.z.up hW).lst HLS.out)
        clear hx16
        generalize (lookT s.p.addr (L1 s.p.six)).getD it0 = x at *
        generalize (lookT s.p.addr (L1 s.p.six)).isSome = xb at *
        generalize (getT cmpP s.p (L1 s.p.six)).getD 0 = y at *
        generalize (getT cmpP s.p (L1 s.p.six)).isSome = yb at *
        generalize ((useL s.v (kindL L1)).length : Int) = un at *
        go_wp2_with (first
          | (refine plV rfl (arrV s.p.addr) (exec_load_any _ (.tmp 88) rfl SB 2 (byteVals s.p.addr) _ rfl RA.out Try.underlying23 rfl (by rw [byteVals_length, H16.out]; exact arr16P.info)) ?_)
          | (go_at_call 13; refine (HLK.out _ (Below.refl _ _)).mono ?_; rintro e W6 ⟨rfl, b6⟩; refine Hid.out ?_))
        refine Lib.hid ?_
        have hbC : Below W6.heap.size W6 (W6.alloc (.cells (itR x.1 x.2).toArray 44)) := (Below.refl _ _).alloc (Nat.le_refl _) _
        have B7 := Lib.hid (below_up b6 hbC b6.size)
        have HXC := Lib.hid (Bx.new W6 44 (itR x.1 x.2))
        clear hbC b6 RA c1 HLK
        rw [show itV x.1 x.2 = .agg (itR x.1 x.2).toArray from rfl]
        go_wp2_with (refine wpList_store_fresh rfl 44 (.tmp 18) (.tmp 91) rfl (itR x.1 x.2) _ W6.heap.size rfl rfl rfl (it_infoC HX16.out x.2) (by rw [it_len HX16.out]; rfl) (it_one _ _) ?_; refine Hid.out ?_)
        refine Lib.hid ?_
        generalize W6.alloc (.cells (itR x.1 x.2).toArray 44) = W7 at *
        generalize W6.heap.size = C1 at *
        have HZ7 := Lib.hid (HZ5.out.up B7.out)
        have c1 := HZ7.out.six
        have RA := Lib.hid HZ7.out.adr
        have RF := Lib.hid HZ7.out.f
        go_wp2_with (first
          | (refine plV rfl (fV is rd D1) (exec_load_any _ (.tmp 9) rfl bF 0 (fR is rd D1) _ rfl RF.out Try.underlying33 rfl f_info) ?_)
          | (refine plV rfl (arrV s.p.addr) (exec_load_any _ (.tmp 99) rfl SB 2 (byteVals s.p.addr) _ rfl RA.out Try.underlying23 rfl (by rw [byteVals_length, H16.out]; exact arr16P.info)) ?_)
          | (go_at_call 14; refine (HGK.out _ B7.out).mono ?_; rintro e W8 ⟨rfl, b8⟩; refine Hid.out ?_))
        refine Lib.hid ?_
        have hbC : Below W8.heap.size W8 (W8.alloc (.cells (itR x.1 x.2).toArray 47)) := (Below.refl _ _).alloc (Nat.le_refl _) _
        have B9 := Lib.hid ((B7.out.trans (b8.mono B7.out.size)).trans (hbC.mono (Nat.le_trans B7.out.size b8.size)))
        have HXC9 := Lib.hid ((HXC.out.up b8).up hbC)
        have HXI := Lib.hid (Bx.new W8 47 (itR x.1 x.2))
        clear hbC b8 RA c1 RF HGK HZ7 B7 HXC
        rw [show itV x.1 x.2 = .agg (itR x.1 x.2).toArray from rfl]
        go_wp2_with (refine wpList_store_fresh rfl 47 (.tmp 20) (.tmp 102) rfl (itR x.1 x.2) _ W8.heap.size rfl rfl rfl (i_infoC HX16.out x.2) (by rw [it_len HX16.out]; rfl) (it_one _ _) ?_; refine Hid.out ?_)
        refine Lib.hid ?_
        generalize W8.alloc (.cells (itR x.1 x.2).toArray 47) = W9 at *
        generalize W8.heap.size = C2 at *
        have RP := Lib.hid (HZ5.out.up B9.out).pfx
        go_wp2_with (first
          | (refine plV rfl s.p.val (exec_load_any _ (.tmp 106) rfl SB 1 s.p.row _ rfl RP.out Try.underlying25 rfl (pf_infoC H16.out)) ?_)
          | (go_at_call 15; refine (HGT.out _ B9.out).mono ?_; rintro e Wa ⟨rfl, ba⟩; refine Hid.out ?_))
        refine Lib.hid ?_
        have Ba := Lib.hid (B9.out.trans (ba.mono B9.out.size))
        have HXCa := Lib.hid (HXC9.out.up ba)
        have HXIa := Lib.hid (HXI.out.up ba)
        have RPa := Lib.hid (HZ5.out.up Ba.out).pfx
        have RFa := Lib.hid (HZ5.out.up Ba.out).f
        clear ba RP B9 HXC9 HXI HGT
        go_wp2_with (first
          | (refine plV rfl (fV is rd D1) (exec_load_any _ (.tmp 9) rfl bF 0 (fR is rd D1) _ rfl RFa.out Try.underlying33 rfl f_info) ?_)
          | (refine plV rfl s.p.val (exec_load_any _ (.tmp 113) rfl SB 1 s.p.row _ rfl RPa.out Try.underlying25 rfl (pf_infoC H16.out)) ?_)
          | (go_at_call 16; refine (HGG.out _ Ba.out).mono ?_; rintro e Wb ⟨rfl, bb⟩; refine Hid.out ?_))
        refine Lib.hid ?_
        have Bb := Lib.hid (Ba.out.trans (bb.mono Ba.out.size))
        have HXCb := Lib.hid (HXCa.out.up bb)
        have HXIb := Lib.hid (HXIa.out.up bb)
        have HHR := Lib.hid (fun W (hW : Below Wb.heap.size Wb W) => (⟨(HXCb.out.up hW).range 0 _ it_pre, (HXIb.out.up hW).range 0 _ it_pre, by rw [(HXCb.out.up hW).cell]; exact it_v HX16.out, by rw [(HXIb.out.up hW).cell]; exact it_v HX16.out, (HZ5.out.up (Bb.out.trans (hW.mono Bb.out.size))).f, (HZ5.out.up (Bb.out.trans (hW.mono Bb.out.size))).v H16.out⟩ : HeldR10 C1 C2 bF SB x.1.row (fR is rd D1) x.2 s.v W))
        clear bb RPa RFa Ba HXCa HXIa HGG HXCb HXIb
        go_wp2
        refine wp_region_noPanic ?_
        refine wp_region_held_drew (S := HeldR10 C1 C2 bF SB x.1.row (fR is rd D1) x.2 s.v) (by kernel_rfl) (HHR.out _ (Below.refl _ _).drew) (fun hHeld => ?_)
        refine held_take (v := ?v425) 0 rfl (by kernel_rfl) (by kernel_rfl) (by kernel_rfl) (fun _ _ _ h => h) (by rfl) ?y425 (by assumption) ?_
        case y425 => (intro w hSw; unfold HeldR10 at hSw; go_simp; (try with_reducible rfl); (try omega))
        simp only [List.setIfInBounds_toArray, List.set_cons_zero, List.set_cons_succ]
        refine held_take (v := ?v428) 1 rfl (by kernel_rfl) (by kernel_rfl) (by kernel_rfl) (fun _ _ _ h => h) (by rfl) ?y428 (by assumption) ?_
        case y428 => (intro w hSw; unfold HeldR10 at hSw; go_simp; (try with_reducible rfl); (try omega))
        simp only [List.setIfInBounds_toArray, List.set_cons_zero, List.set_cons_succ]
        refine held_take (v := .bool false) 2 rfl (by kernel_rfl) (by kernel_rfl) (by kernel_rfl) (fun _ _ _ h => h) (by rfl) (fun W hSw => (by go_simp)) (by assumption) ?_
        simp only [List.setIfInBounds_toArray, List.set_cons_zero, List.set_cons_succ]
        refine held_take (v := ?v433) 3 rfl (by kernel_rfl) (by kernel_rfl) (by kernel_rfl) (fun _ _ _ h => h) (by rfl) ?y433 (by assumption) ?_
        case y433 => (intro w hSw; unfold HeldR10 at hSw; go_simp; (try with_reducible rfl); (try omega))
        simp only [List.setIfInBounds_toArray, List.set_cons_zero, List.set_cons_succ]
        refine held_take (v := ?v436) 4 rfl (by kernel_rfl) (by kernel_rfl) (by kernel_rfl) (fun _ _ _ h => h) (by rfl) ?y436 (by assumption) ?_
        case y436 => (intro w hSw; unfold HeldR10 at hSw; go_simp; (try with_reducible rfl); (try omega))
        simp only [List.setIfInBounds_toArray, List.set_cons_zero, List.set_cons_succ]
        refine held_take (v := x.1.val) 5 rfl (by kernel_rfl) (by kernel_rfl) (by kernel_rfl) (fun _ _ _ h => h) (by rfl) (fun W hSw => exec_load_any _ (.tmp 122) rfl C1 0 x.1.row _ rfl hSw.1 Try.underlying25 rfl (pf_infoC HX16.out)) (by assumption) ?_
        simp only [List.setIfInBounds_toArray, List.set_cons_zero, List.set_cons_succ]
        refine held_take (v := ?v441) 6 rfl (by kernel_rfl) (by kernel_rfl) (by kernel_rfl) (fun _ _ _ h => h) (by rfl) ?y441 (by assumption) ?_
        case y441 => (intro w hSw; unfold HeldR10 at hSw; go_simp; (try with_reducible rfl); (try omega))
        simp only [List.setIfInBounds_toArray, List.set_cons_zero, List.set_cons_succ]
        refine held_take (v := x.1.val) 7 rfl (by kernel_rfl) (by kernel_rfl) (by kernel_rfl) (fun _ _ _ h => h) (by rfl) (fun W hSw => exec_load_any _ (.tmp 124) rfl C2 0 x.1.row _ rfl hSw.2.1 Try.underlying25 rfl (pf_infoC HX16.out)) (by assumption) ?_
        simp only [List.setIfInBounds_toArray, List.set_cons_zero, List.set_cons_succ]
        refine held_take (v := .bool false) 8 rfl (by kernel_rfl) (by kernel_rfl) (by kernel_rfl) (fun _ _ _ h => h) (by rfl) (fun W hSw => (exec_neq_pfx 123 125 _ rfl x.1 x.1 HX16.out HX16.out rfl rfl).trans (by rw [eqP_self]; rfl)) (by assumption) ?_
        simp only [List.setIfInBounds_toArray, List.set_cons_zero, List.set_cons_succ]
        refine held_take (v := ?v448) 9 rfl (by kernel_rfl) (by kernel_rfl) (by kernel_rfl) (fun _ _ _ h => h) (by rfl) ?y448 (by assumption) ?_
        case y448 => (intro w hSw; unfold HeldR10 at hSw; go_simp; (try with_reducible rfl); (try omega))
        simp only [List.setIfInBounds_toArray, List.set_cons_zero, List.set_cons_succ]
        refine held_take (v := ?v451) 10 rfl (by kernel_rfl) (by kernel_rfl) (by kernel_rfl) (fun _ _ _ h => h) (by rfl) ?y451 (by assumption) ?_
        case y451 => (intro w hSw; unfold HeldR10 at hSw; go_simp; (try with_reducible rfl); (try omega))
        simp only [List.setIfInBounds_toArray, List.set_cons_zero, List.set_cons_succ]
        refine held_take (v := ?v454) 11 rfl (by kernel_rfl) (by kernel_rfl) (by kernel_rfl) (fun _ _ _ h => h) (by rfl) ?y454 (by assumption) ?_
        case y454 => (intro w hSw; unfold HeldR10 at hSw; go_simp; (try with_reducible rfl); (try omega))
        simp only [List.setIfInBounds_toArray, List.set_cons_zero, List.set_cons_succ]
        refine held_take (v := ?v457) 12 rfl (by kernel_rfl) (by kernel_rfl) (by kernel_rfl) (fun _ _ _ h => h) (by rfl) ?y457 (by assumption) ?_
        case y457 => (intro w hSw; unfold HeldR10 at hSw; go_simp; (try with_reducible rfl); (try omega))
        simp only [List.setIfInBounds_toArray, List.set_cons_zero, List.set_cons_succ]
        refine held_take (v := ?v460) 13 rfl (by kernel_rfl) (by kernel_rfl) (by kernel_rfl) (fun _ _ _ h => h) (by rfl) ?y460 (by assumption) ?_
        case y460 => (intro w hSw; unfold HeldR10 at hSw; go_simp; (try with_reducible rfl); (try omega))
        simp only [List.setIfInBounds_toArray, List.set_cons_zero, List.set_cons_succ]
        refine held_take (v := ?v463) 14 rfl (by kernel_rfl) (by kernel_rfl) (by kernel_rfl) (fun _ _ _ h => h) (by rfl) ?y463 (by assumption) ?_
        case y463 => (intro w hSw; unfold HeldR10 at hSw; go_simp; (try with_reducible rfl); (try omega))
        simp only [List.setIfInBounds_toArray, List.set_cons_zero, List.set_cons_succ]
        refine held_take (v := .bool false) 15 rfl (by kernel_rfl) (by kernel_rfl) (by kernel_rfl) (fun _ _ _ h => h) (by rfl) (fun W hSw => (by go_simp)) (by assumption) ?_
        simp only [List.setIfInBounds_toArray, List.set_cons_zero, List.set_cons_succ]
        refine held_take (v := ?v468) 16 rfl (by kernel_rfl) (by kernel_rfl) (by kernel_rfl) (fun _ _ _ h => h) (by rfl) ?y468 (by assumption) ?_
        case y468 => (intro w hSw; unfold HeldR10 at hSw; go_simp; (try with_reducible rfl); (try omega))
        simp only [List.setIfInBounds_toArray, List.set_cons_zero, List.set_cons_succ]
        refine held_take (v := ?v471) 17 rfl (by kernel_rfl) (by kernel_rfl) (by kernel_rfl) (fun _ _ _ h => h) (by rfl) ?y471 (by assumption) ?_
        case y471 => (intro w hSw; unfold HeldR10 at hSw; go_simp; (try with_reducible rfl); (try omega))
        simp only [List.setIfInBounds_toArray, List.set_cons_zero, List.set_cons_succ]
        refine held_take (v := ?v474) 18 rfl (by kernel_rfl) (by kernel_rfl) (by kernel_rfl) (fun _ _ _ h => h) (by rfl) ?y474 (by assumption) ?_
        case y474 => (intro w hSw; unfold HeldR10 at hSw; go_simp; (try with_reducible rfl); (try omega))
        simp only [List.setIfInBounds_toArray, List.set_cons_zero, List.set_cons_succ]
        refine held_take (v := ?v477) 19 rfl (by kernel_rfl) (by kernel_rfl) (by kernel_rfl) (fun _ _ _ h => h) (by rfl) ?y477 (by assumption) ?_
        case y477 => (intro w hSw; unfold HeldR10 at hSw; go_simp; (try with_reducible rfl); (try omega))
        simp only [List.setIfInBounds_toArray, List.set_cons_zero, List.set_cons_succ]
        refine held_take (v := .bool false) 20 rfl (by kernel_rfl) (by kernel_rfl) (by kernel_rfl) (fun _ _ _ h => h) (by rfl) (fun W hSw => (by cases xb <;> go_simp)) (by assumption) ?_
        simp only [List.setIfInBounds_toArray, List.set_cons_zero, List.set_cons_succ]
        refine held_take (v := ?v482) 21 rfl (by kernel_rfl) (by kernel_rfl) (by kernel_rfl) (fun _ _ _ h => h) (by rfl) ?y482 (by assumption) ?_
        case y482 => (intro w hSw; unfold HeldR10 at hSw; go_simp; (try with_reducible rfl); (try omega))
        simp only [List.setIfInBounds_toArray, List.set_cons_zero, List.set_cons_succ]
        refine held_take (v := ?v485) 22 rfl (by kernel_rfl) (by kernel_rfl) (by kernel_rfl) (fun _ _ _ h => h) (by rfl) ?y485 (by assumption) ?_
        case y485 => (intro w hSw; unfold HeldR10 at hSw; go_simp; (try with_reducible rfl); (try omega))
        simp only [List.setIfInBounds_toArray, List.set_cons_zero, List.set_cons_succ]
        refine held_take (v := ?v488) 23 rfl (by kernel_rfl) (by kernel_rfl) (by kernel_rfl) (fun _ _ _ h => h) (by rfl) ?y488 (by assumption) ?_
        case y488 => (intro w hSw; unfold HeldR10 at hSw; go_simp; (try with_reducible rfl); (try omega))
        simp only [List.setIfInBounds_toArray, List.set_cons_zero, List.set_cons_succ]
        refine held_take (v := ?v491) 24 rfl (by kernel_rfl) (by kernel_rfl) (by kernel_rfl) (fun _ _ _ h => h) (by rfl) ?y491 (by assumption) ?_
        case y491 => (intro w hSw; unfold HeldR10 at hSw; go_simp; (try with_reducible rfl); (try omega))
        simp only [List.setIfInBounds_toArray, List.set_cons_zero, List.set_cons_succ]
        refine held_take (v := .bool false) 25 rfl (by kernel_rfl) (by kernel_rfl) (by kernel_rfl) (fun _ _ _ h => h) (by rfl) (fun W hSw => (by go_simp)) (by assumption) ?_
        simp only [List.setIfInBounds_toArray, List.set_cons_zero, List.set_cons_succ]
        refine held_take (v := ?v496) 26 rfl (by kernel_rfl) (by kernel_rfl) (by kernel_rfl) (fun _ _ _ h => h) (by rfl) ?y496 (by assumption) ?_
        case y496 => (intro w hSw; unfold HeldR10 at hSw; go_simp; (try with_reducible rfl); (try omega))
        simp only [List.setIfInBounds_toArray, List.set_cons_zero, List.set_cons_succ]
        refine held_take (v := ?v499) 27 rfl (by kernel_rfl) (by kernel_rfl) (by kernel_rfl) (fun _ _ _ h => h) (by rfl) ?y499 (by assumption) ?_
        case y499 => (intro w hSw; unfold HeldR10 at hSw; go_simp; (try with_reducible rfl); (try omega))
        simp only [List.setIfInBounds_toArray, List.set_cons_zero, List.set_cons_succ]
        refine held_take (v := ?v502) 28 rfl (by kernel_rfl) (by kernel_rfl) (by kernel_rfl) (fun _ _ _ h => h) (by rfl) ?y502 (by assumption) ?_
        case y502 => (intro w hSw; unfold HeldR10 at hSw; go_simp; (try with_reducible rfl); (try omega))
        simp only [List.setIfInBounds_toArray, List.set_cons_zero, List.set_cons_succ]
        refine held_take (v := ?v505) 29 rfl (by kernel_rfl) (by kernel_rfl) (by kernel_rfl) (fun _ _ _ h => h) (by rfl) ?y505 (by assumption) ?_
        case y505 => (intro w hSw; unfold HeldR10 at hSw; go_simp; (try with_reducible rfl); (try omega))
        simp only [List.setIfInBounds_toArray, List.set_cons_zero, List.set_cons_succ]
        refine held_take (v := .bool false) 30 rfl (by kernel_rfl) (by kernel_rfl) (by kernel_rfl) (fun _ _ _ h => h) (by rfl) (fun W hSw => (by cases yb <;> go_simp)) (by assumption) ?_
        simp only [List.setIfInBounds_toArray, List.set_cons_zero, List.set_cons_succ]
        refine held_take (v := ?v510) 31 rfl (by kernel_rfl) (by kernel_rfl) (by kernel_rfl) (fun _ _ _ h => h) (by rfl) ?y510 (by assumption) ?_
        case y510 => (intro w hSw; unfold HeldR10 at hSw; go_simp; (try with_reducible rfl); (try omega))
        simp only [List.setIfInBounds_toArray, List.set_cons_zero, List.set_cons_succ]
        refine held_take (v := ?v513) 32 rfl (by kernel_rfl) (by kernel_rfl) (by kernel_rfl) (fun _ _ _ h => h) (by rfl) ?y513 (by assumption) ?_
        case y513 => (intro w hSw; unfold HeldR10 at hSw; go_simp; (try with_reducible rfl); (try omega))
        simp only [List.setIfInBounds_toArray, List.set_cons_zero, List.set_cons_succ]
        refine held_take (v := ?v516) 33 rfl (by kernel_rfl) (by kernel_rfl) (by kernel_rfl) (fun _ _ _ h => h) (by rfl) ?y516 (by assumption) ?_
        case y516 => (intro w hSw; unfold HeldR10 at hSw; go_simp; (try with_reducible rfl); (try omega))
        simp only [List.setIfInBounds_toArray, List.set_cons_zero, List.set_cons_succ]
        refine held_take (v := ?v519) 34 rfl (by kernel_rfl) (by kernel_rfl) (by kernel_rfl) (fun _ _ _ h => h) (by rfl) ?y519 (by assumption) ?_
        case y519 => (intro w hSw; unfold HeldR10 at hSw; go_simp; (try with_reducible rfl); (try omega))
        simp only [List.setIfInBounds_toArray, List.set_cons_zero, List.set_cons_succ]
        refine held_take (v := ?v522) 35 rfl (by kernel_rfl) (by kernel_rfl) (by kernel_rfl) (fun _ _ _ h => h) (by rfl) ?y522 (by assumption) ?_
        case y522 => (intro w hSw; unfold HeldR10 at hSw; go_simp; (try with_reducible rfl); (try omega))
        simp only [List.setIfInBounds_toArray, List.set_cons_zero, List.set_cons_succ]
        refine held_take (v := fV is rd D1) 37 rfl (by kernel_rfl) (by kernel_rfl) (by kernel_rfl) (fun _ _ _ h => h) (by rfl) (fun W hSw => exec_load_any _ (.tmp 9) rfl bF 0 (fR is rd D1) _ rfl hSw.2.2.2.2.1 Try.underlying33 rfl f_info) (by assumption) ?_
        simp only [List.setIfInBounds_toArray, List.set_cons_zero, List.set_cons_succ]
        refine held_take (v := ?v527) 38 rfl (by kernel_rfl) (by kernel_rfl) (by kernel_rfl) (fun _ _ _ h => h) (by rfl) ?y527 (by assumption) ?_
        case y527 => (intro w hSw; unfold HeldR10 at hSw; go_simp; (try with_reducible rfl); (try omega))
        simp only [List.setIfInBounds_toArray, List.set_cons_zero, List.set_cons_succ]
        refine held_take (v := ?v530) 39 rfl (by kernel_rfl) (by kernel_rfl) (by kernel_rfl) (fun _ _ _ h => h) (by rfl) ?y530 (by assumption) ?_
        case y530 => (intro w hSw; unfold HeldR10 at hSw; go_simp; (try with_reducible rfl); (try omega))
        simp only [List.setIfInBounds_toArray, List.set_cons_zero, List.set_cons_succ]
        refine held_one 36 rfl (by kernel_rfl) (by rfl) (fun K hK => ?_)
        go_simp
        refine (HUS.out _ Bb.out.drew).mono ?_
        rintro e Wc ⟨rfl, bc⟩
        have Bc := Lib.hid ((Below.refl Wb.heap.size Wb).drew.trans (bc.mono (Below.refl Wb.heap.size Wb).drew.size))
        refine hK.out _ _ (HHR.out _ Bc.out) (fun _ => ?_)
        clear hK K bc HUS hHeld
        refine held_one 40 rfl (by kernel_rfl) (by rfl) (fun K hK => ?_)
        go_simp
        refine (HGU.out _ (Bb.out.trans (Bc.out.mono Bb.out.size))).mono ?_
        rintro e Wd ⟨rfl, bd⟩
        have Bd := Lib.hid (Bc.out.trans (bd.mono Bc.out.size))
        refine hK.out _ _ (HHR.out _ Bd.out) (fun _ => ?_)
        clear hK K bd HGU Bc
        refine held_take (v := .bool false) 41 rfl (by kernel_rfl) (by kernel_rfl) (by kernel_rfl) (fun _ _ _ h => h) (by rfl) (fun W hSw => (by go_simp)) (by assumption) ?_
        simp only [List.setIfInBounds_toArray, List.set_cons_zero, List.set_cons_succ]
        refine held_take (v := ?v549) 42 rfl (by kernel_rfl) (by kernel_rfl) (by kernel_rfl) (fun _ _ _ h => h) (by rfl) ?y549 (by assumption) ?_
        case y549 => (intro w hSw; unfold HeldR10 at hSw; go_simp; (try with_reducible rfl); (try omega))
        simp only [List.setIfInBounds_toArray, List.set_cons_zero, List.set_cons_succ]
        refine wpAnyH_done (by kernel_rfl) ?_ _
        refine NoPanic.normal ?_
        have HE := Lib.hid (HZ5.out.up (Bb.out.trans (Bd.out.mono Bb.out.size)))
        clear HZ5 Bb Bd HHR
        go_wp2
        go_roundw
        case rel => exact ⟨i + 1, L1, D1, by omega, by go_num, HLL.out, by rw [show 1 + 150 * (i + 1) = 1 + 150 * i + 150 by omega]; exact HE.out.z.with (Below.refl _ _) _ (fun k hk => .inl (.inl hk)), HE.out.p⟩
        case measure => simp [intOf]; omega
      · have hk0b : (s.k == 0) = false := beq_eq_false_iff_ne.2 hk0
        by_cases hk1 : s.k = 1
        · -- delete
          rw [hk1] at c0 hk0b
          have R1 := Lib.hid HZ1.out.pfx
          have HPU := Lib.hid (HZ1.out.z.del s.p H16.out (by omega))
          clear hk0 hk1
          go_wp2_with (first
            | (refine plV rfl s.p.val (exec_load_any _ (.tmp 70) rfl SB 1 s.p.row _ rfl R1.out Try.underlying25 rfl (pf_infoC H16.out)) ?_)
            | (go_at_call 11; refine HPU.out.mono ?_; rintro e W2 ⟨rfl, z2, kp2⟩; refine Hid.out ?_))
          refine Lib.hid ?_
          have HZ2 : Hid (RnF w p pt is rd (fdelL is L s.p) (1 + 150 * i + 150) bF L D SB s W2) := Lib.hid ⟨z2, kp2 _ _ _ (.inr rfl) HZ1.out.st, kp2 _ _ _ (.inl rfl) HZ1.out.p⟩
          have R2 := Lib.hid HZ2.out.pfx
          have RF2 := Lib.hid HZ2.out.f
          have HG2 := Lib.hid (gdel is rd D L s.p W2 HZ2.out.z.lst H16.out (fun t => by have := HL.out t; omega))
          clear z2 kp2 HPU HZ1 R1 c0 c19
          go_wp2_with (first
            | (refine plV rfl (fV is rd D) (exec_load_any _ (.tmp 9) rfl bF 0 (fR is rd D) _ rfl RF2.out Try.underlying33 rfl f_info) ?_)
            | (refine plV rfl s.p.val (exec_load_any _ (.tmp 75) rfl SB 1 s.p.row _ rfl R2.out Try.underlying25 rfl (pf_infoC H16.out)) ?_)
            | (go_at_call 12; refine HG2.out.mono ?_; rintro e W3 ⟨⟨d, rfl, l3, d3⟩, b3⟩; refine Hid.out ?_))
          refine Lib.hid ?_
          have hbA : Below W3.heap.size W3 (W3.alloc (.cells (fR is rd (upS D s.p.six d)).toArray 33)) := (Below.refl _ _).alloc (Nat.le_refl _) _
          have hb23 := below_up b3 hbA b3.size
          obtain ⟨zs, ks⟩ := HZ2.out.z.settle (s := s.p.six) hb23 (l3.below hbA) d3
          have HZ5 : Hid (RnF w p pt is rd (fdelL is L s.p) (1 + 150 * i + 150) bF (fdelL is L s.p) (upS D s.p.six d) SB s ((W3.alloc (.cells (fR is rd (upS D s.p.six d)).toArray 33)).setRow bF (fR is rd (upS D s.p.six d)).toArray)) := Lib.hid ⟨zs, ks _ _ _ HNE.out.1 (HZ2.out.st.up hb23), ks _ _ _ HNE.out.2 (HZ2.out.p.up hb23)⟩
          have RT := Lib.hid (rangeAll (Bx.new W3 33 (fR is rd (upS D s.p.six d))))
          have HF5 := Lib.hid (HZ2.out.z.ref.up hb23)
          clear zs ks l3 d3 b3 hb23 hbA HZ2 HG2 R2 RF2
          (try clear c19b)
          rw [show fV is rd (upS D s.p.six d) = .agg (fR is rd (upS D s.p.six d)).toArray from rfl]
          go_wp2_with (refine wpList_store_fresh rfl 33 (.tmp 16) (.tmp 78) rfl (fR is rd (upS D s.p.six d)) _ W3.heap.size rfl rfl rfl f_info rfl (f_one _ _ _) ?_; refine Hid.out ?_)
          refine Lib.hid ?_
          go_wp2_with (first
            | (refine plV rfl (fV is rd (upS D s.p.six d)) (exec_load_any _ (.tmp 16) rfl W3.heap.size 0 (fR is rd (upS D s.p.six d)) _ rfl RT.out Try.underlying33 rfl f_info) ?_)
            | (refine wpList_store_bx rfl 33 (.tmp 9) (.tmp 80) rfl bF (fR is rd (upS D s.p.six d)) (fR is rd D) rfl rfl HF5.out f_info rfl (f_one _ _ _) ?_; refine Hid.out ?_))
          refine Lib.hid ?_
          clear RT HF5
          generalize (W3.alloc (.cells (fR is rd (upS D s.p.six d)).toArray 33)).setRow bF (fR is rd (upS D s.p.six d)).toArray = W5 at *
          have HLL : Hid (∀ t, (fdelL is L s.p t).length ≤ i + 1) := Lib.hid (fun t => fdelL_len is L s.p i HL.out t)
          generalize fdelL is L s.p = L1 at *
          generalize fdelE is L s.p = cE at *
          generalize upS D s.p.six d = D1 at *
          have hx16 : ((lookT s.p.addr (L1 s.p.six)).getD it0).1.addr.length = 16 := by
            cases hl : lookT s.p.addr (L1 s.p.six) with
            | none => rfl
            | some y => exact ((HZ5.out.z.orderA s.p.six).2 y (look_mem _ _ y hl).1).2.1
          have HX16 := Lib.hid hx16
          have HLS : Hid (∀ t, (L1 t).length ≤ 400000) := Lib.hid (fun t => by have := HLL.out t; omega)
          have HNN : Hid (1 + 150 * i + 150 ≤ 400000) := Lib.hid (by omega)
          have c1 := HZ5.out.six
          have RA := Lib.hid HZ5.out.adr
          have HLK : Hid (∀ W, Below W5.heap.size W5 W → Calls Try.prog 13 #[pt, .bool s.p.six, arrV s.p.addr] W fun e w' => e = .returned (.tuple #[itV ((lookT s.p.addr (L1 s.p.six)).getD it0).1 ((lookT s.p.addr (L1 s.p.six)).getD it0).2, .bool (lookT s.p.addr (L1 s.p.six)).isSome]) ∧ Below W.heap.size W w') := Lib.hid (fun W hW => by
            obtain ⟨X, h1, _⟩ := (HZ5.out.z.up hW).tab
            exact flook s.p.six s.p.addr W h1 H16.out)
          have HGK := Lib.hid (fun W (hW : Below W5.heap.size W5 W) => glook is rd D1 L1 s.p.six s.p.addr W s.p.six (HZ5.out.z.orderA s.p.six) (HZ5.out.z.up hW).lst H16.out HLS.out)
          have HGT : Hid (∀ W, Below W5.heap.size W5 W → Calls Try.prog 15 #[pt, s.p.val] W fun e w' => e = .returned (.tuple #[.int .i64 ((getT cmpP s.p (L1 s.p.six)).getD 0), .bool (getT cmpP s.p (L1 s.p.six)).isSome]) ∧ Below W.heap.size W w') := Lib.hid (fun W hW => by
            obtain ⟨X, h1, _⟩ := (HZ5.out.z.up hW).tab
            exact fget s.p W h1 H16.out)
          have HGG := Lib.hid (fun W (hW : Below W5.heap.size W5 W) => gget is rd D1 L1 s.p W (HZ5.out.z.up hW).lst H16.out HLS.out)
          have HUS : Hid (∀ W, Below W5.heap.size W5 W → Calls Try.prog 17 #[pt, .int .i64 s.v] W fun e w' => e = .returned (.int .i64 ((useL s.v (kindL L1)).length : Int)) ∧ Below W.heap.size W w') := Lib.hid (fun W hW => by
            obtain ⟨X, h1, _⟩ := (HZ5.out.z.up hW).tab
            exact fuses s.v h1 HNN.out)
          have HGU := Lib.hid (fun W (hW : Below W5.heap.size W5 W) => guses is rd D1 L1 s.v W (HZ5.out.z.up hW).lst HLS.out)
          clear hx16
          generalize (lookT s.p.addr (L1 s.p.six)).getD it0 = x at *
          generalize (lookT s.p.addr (L1 s.p.six)).isSome = xb at *
          generalize (getT cmpP s.p (L1 s.p.six)).getD 0 = y at *
          generalize (getT cmpP s.p (L1 s.p.six)).isSome = yb at *
          generalize ((useL s.v (kindL L1)).length : Int) = un at *
          go_wp2_with (first
            | (refine plV rfl (arrV s.p.addr) (exec_load_any _ (.tmp 88) rfl SB 2 (byteVals s.p.addr) _ rfl RA.out Try.underlying23 rfl (by rw [byteVals_length, H16.out]; exact arr16P.info)) ?_)
            | (go_at_call 13; refine (HLK.out _ (Below.refl _ _)).mono ?_; rintro e W6 ⟨rfl, b6⟩; refine Hid.out ?_))
          refine Lib.hid ?_
          have hbC : Below W6.heap.size W6 (W6.alloc (.cells (itR x.1 x.2).toArray 44)) := (Below.refl _ _).alloc (Nat.le_refl _) _
          have B7 := Lib.hid (below_up b6 hbC b6.size)
          have HXC := Lib.hid (Bx.new W6 44 (itR x.1 x.2))
          clear hbC b6 RA c1 HLK
          rw [show itV x.1 x.2 = .agg (itR x.1 x.2).toArray from rfl]
          go_wp2_with (refine wpList_store_fresh rfl 44 (.tmp 18) (.tmp 91) rfl (itR x.1 x.2) _ W6.heap.size rfl rfl rfl (it_infoC HX16.out x.2) (by rw [it_len HX16.out]; rfl) (it_one _ _) ?_; refine Hid.out ?_)
          refine Lib.hid ?_
          generalize W6.alloc (.cells (itR x.1 x.2).toArray 44) = W7 at *
          generalize W6.heap.size = C1 at *
          have HZ7 := Lib.hid (HZ5.out.up B7.out)
          have c1 := HZ7.out.six
          have RA := Lib.hid HZ7.out.adr
          have RF := Lib.hid HZ7.out.f
          go_wp2_with (first
            | (refine plV rfl (fV is rd D1) (exec_load_any _ (.tmp 9) rfl bF 0 (fR is rd D1) _ rfl RF.out Try.underlying33 rfl f_info) ?_)
            | (refine plV rfl (arrV s.p.addr) (exec_load_any _ (.tmp 99) rfl SB 2 (byteVals s.p.addr) _ rfl RA.out Try.underlying23 rfl (by rw [byteVals_length, H16.out]; exact arr16P.info)) ?_)
            | (go_at_call 14; refine (HGK.out _ B7.out).mono ?_; rintro e W8 ⟨rfl, b8⟩; refine Hid.out ?_))
          refine Lib.hid ?_
          have hbC : Below W8.heap.size W8 (W8.alloc (.cells (itR x.1 x.2).toArray 47)) := (Below.refl _ _).alloc (Nat.le_refl _) _
          have B9 := Lib.hid ((B7.out.trans (b8.mono B7.out.size)).trans (hbC.mono (Nat.le_trans B7.out.size b8.size)))
          have HXC9 := Lib.hid ((HXC.out.up b8).up hbC)
          have HXI := Lib.hid (Bx.new W8 47 (itR x.1 x.2))
          clear hbC b8 RA c1 RF HGK HZ7 B7 HXC
          rw [show itV x.1 x.2 = .agg (itR x.1 x.2).toArray from rfl]
          go_wp2_with (refine wpList_store_fresh rfl 47 (.tmp 20) (.tmp 102) rfl (itR x.1 x.2) _ W8.heap.size rfl rfl rfl (i_infoC HX16.out x.2) (by rw [it_len HX16.out]; rfl) (it_one _ _) ?_; refine Hid.out ?_)
          refine Lib.hid ?_
          generalize W8.alloc (.cells (itR x.1 x.2).toArray 47) = W9 at *
          generalize W8.heap.size = C2 at *
          have RP := Lib.hid (HZ5.out.up B9.out).pfx
          go_wp2_with (first
            | (refine plV rfl s.p.val (exec_load_any _ (.tmp 106) rfl SB 1 s.p.row _ rfl RP.out Try.underlying25 rfl (pf_infoC H16.out)) ?_)
            | (go_at_call 15; refine (HGT.out _ B9.out).mono ?_; rintro e Wa ⟨rfl, ba⟩; refine Hid.out ?_))
          refine Lib.hid ?_
          have Ba := Lib.hid (B9.out.trans (ba.mono B9.out.size))
          have HXCa := Lib.hid (HXC9.out.up ba)
          have HXIa := Lib.hid (HXI.out.up ba)
          have RPa := Lib.hid (HZ5.out.up Ba.out).pfx
          have RFa := Lib.hid (HZ5.out.up Ba.out).f
          clear ba RP B9 HXC9 HXI HGT
          go_wp2_with (first
            | (refine plV rfl (fV is rd D1) (exec_load_any _ (.tmp 9) rfl bF 0 (fR is rd D1) _ rfl RFa.out Try.underlying33 rfl f_info) ?_)
            | (refine plV rfl s.p.val (exec_load_any _ (.tmp 113) rfl SB 1 s.p.row _ rfl RPa.out Try.underlying25 rfl (pf_infoC H16.out)) ?_)
            | (go_at_call 16; refine (HGG.out _ Ba.out).mono ?_; rintro e Wb ⟨rfl, bb⟩; refine Hid.out ?_))
          refine Lib.hid ?_
          have Bb := Lib.hid (Ba.out.trans (bb.mono Ba.out.size))
          have HXCb := Lib.hid (HXCa.out.up bb)
          have HXIb := Lib.hid (HXIa.out.up bb)
          have HHR := Lib.hid (fun W (hW : Below Wb.heap.size Wb W) => (⟨(HXCb.out.up hW).range 0 _ it_pre, (HXIb.out.up hW).range 0 _ it_pre, by rw [(HXCb.out.up hW).cell]; exact it_v HX16.out, by rw [(HXIb.out.up hW).cell]; exact it_v HX16.out, (HZ5.out.up (Bb.out.trans (hW.mono Bb.out.size))).f, (HZ5.out.up (Bb.out.trans (hW.mono Bb.out.size))).v H16.out⟩ : HeldR10 C1 C2 bF SB x.1.row (fR is rd D1) x.2 s.v W))
          clear bb RPa RFa Ba HXCa HXIa HGG HXCb HXIb
          go_wp2
          refine wp_region_noPanic ?_
          refine wp_region_held_drew (S := HeldR10 C1 C2 bF SB x.1.row (fR is rd D1) x.2 s.v) (by kernel_rfl) (HHR.out _ (Below.refl _ _).drew) (fun hHeld => ?_)
          refine held_take (v := ?v685) 0 rfl (by kernel_rfl) (by kernel_rfl) (by kernel_rfl) (fun _ _ _ h => h) (by rfl) ?y685 (by assumption) ?_
          case y685 => (intro w hSw; unfold HeldR10 at hSw; go_simp; (try with_reducible rfl); (try omega))
          simp only [List.setIfInBounds_toArray, List.set_cons_zero, List.set_cons_succ]
          refine held_take (v := ?v688) 1 rfl (by kernel_rfl) (by kernel_rfl) (by kernel_rfl) (fun _ _ _ h => h) (by rfl) ?y688 (by assumption) ?_
          case y688 => (intro w hSw; unfold HeldR10 at hSw; go_simp; (try with_reducible rfl); (try omega))
          simp only [List.setIfInBounds_toArray, List.set_cons_zero, List.set_cons_succ]
          refine held_take (v := .bool false) 2 rfl (by kernel_rfl) (by kernel_rfl) (by kernel_rfl) (fun _ _ _ h => h) (by rfl) (fun W hSw => (by go_simp)) (by assumption) ?_
          simp only [List.setIfInBounds_toArray, List.set_cons_zero, List.set_cons_succ]
          refine held_take (v := ?v693) 3 rfl (by kernel_rfl) (by kernel_rfl) (by kernel_rfl) (fun _ _ _ h => h) (by rfl) ?y693 (by assumption) ?_
          case y693 => (intro w hSw; unfold HeldR10 at hSw; go_simp; (try with_reducible rfl); (try omega))
          simp only [List.setIfInBounds_toArray, List.set_cons_zero, List.set_cons_succ]
          refine held_take (v := ?v696) 4 rfl (by kernel_rfl) (by kernel_rfl) (by kernel_rfl) (fun _ _ _ h => h) (by rfl) ?y696 (by assumption) ?_
          case y696 => (intro w hSw; unfold HeldR10 at hSw; go_simp; (try with_reducible rfl); (try omega))
          simp only [List.setIfInBounds_toArray, List.set_cons_zero, List.set_cons_succ]
          refine held_take (v := x.1.val) 5 rfl (by kernel_rfl) (by kernel_rfl) (by kernel_rfl) (fun _ _ _ h => h) (by rfl) (fun W hSw => exec_load_any _ (.tmp 122) rfl C1 0 x.1.row _ rfl hSw.1 Try.underlying25 rfl (pf_infoC HX16.out)) (by assumption) ?_
          simp only [List.setIfInBounds_toArray, List.set_cons_zero, List.set_cons_succ]
          refine held_take (v := ?v701) 6 rfl (by kernel_rfl) (by kernel_rfl) (by kernel_rfl) (fun _ _ _ h => h) (by rfl) ?y701 (by assumption) ?_
          case y701 => (intro w hSw; unfold HeldR10 at hSw; go_simp; (try with_reducible rfl); (try omega))
          simp only [List.setIfInBounds_toArray, List.set_cons_zero, List.set_cons_succ]
          refine held_take (v := x.1.val) 7 rfl (by kernel_rfl) (by kernel_rfl) (by kernel_rfl) (fun _ _ _ h => h) (by rfl) (fun W hSw => exec_load_any _ (.tmp 124) rfl C2 0 x.1.row _ rfl hSw.2.1 Try.underlying25 rfl (pf_infoC HX16.out)) (by assumption) ?_
          simp only [List.setIfInBounds_toArray, List.set_cons_zero, List.set_cons_succ]
          refine held_take (v := .bool false) 8 rfl (by kernel_rfl) (by kernel_rfl) (by kernel_rfl) (fun _ _ _ h => h) (by rfl) (fun W hSw => (exec_neq_pfx 123 125 _ rfl x.1 x.1 HX16.out HX16.out rfl rfl).trans (by rw [eqP_self]; rfl)) (by assumption) ?_
          simp only [List.setIfInBounds_toArray, List.set_cons_zero, List.set_cons_succ]
          refine held_take (v := ?v708) 9 rfl (by kernel_rfl) (by kernel_rfl) (by kernel_rfl) (fun _ _ _ h => h) (by rfl) ?y708 (by assumption) ?_
          case y708 => (intro w hSw; unfold HeldR10 at hSw; go_simp; (try with_reducible rfl); (try omega))
          simp only [List.setIfInBounds_toArray, List.set_cons_zero, List.set_cons_succ]
          refine held_take (v := ?v711) 10 rfl (by kernel_rfl) (by kernel_rfl) (by kernel_rfl) (fun _ _ _ h => h) (by rfl) ?y711 (by assumption) ?_
          case y711 => (intro w hSw; unfold HeldR10 at hSw; go_simp; (try with_reducible rfl); (try omega))
          simp only [List.setIfInBounds_toArray, List.set_cons_zero, List.set_cons_succ]
          refine held_take (v := ?v714) 11 rfl (by kernel_rfl) (by kernel_rfl) (by kernel_rfl) (fun _ _ _ h => h) (by rfl) ?y714 (by assumption) ?_
          case y714 => (intro w hSw; unfold HeldR10 at hSw; go_simp; (try with_reducible rfl); (try omega))
          simp only [List.setIfInBounds_toArray, List.set_cons_zero, List.set_cons_succ]
          refine held_take (v := ?v717) 12 rfl (by kernel_rfl) (by kernel_rfl) (by kernel_rfl) (fun _ _ _ h => h) (by rfl) ?y717 (by assumption) ?_
          case y717 => (intro w hSw; unfold HeldR10 at hSw; go_simp; (try with_reducible rfl); (try omega))
          simp only [List.setIfInBounds_toArray, List.set_cons_zero, List.set_cons_succ]
          refine held_take (v := ?v720) 13 rfl (by kernel_rfl) (by kernel_rfl) (by kernel_rfl) (fun _ _ _ h => h) (by rfl) ?y720 (by assumption) ?_
          case y720 => (intro w hSw; unfold HeldR10 at hSw; go_simp; (try with_reducible rfl); (try omega))
          simp only [List.setIfInBounds_toArray, List.set_cons_zero, List.set_cons_succ]
          refine held_take (v := ?v723) 14 rfl (by kernel_rfl) (by kernel_rfl) (by kernel_rfl) (fun _ _ _ h => h) (by rfl) ?y723 (by assumption) ?_
          case y723 => (intro w hSw; unfold HeldR10 at hSw; go_simp; (try with_reducible rfl); (try omega))
          simp only [List.setIfInBounds_toArray, List.set_cons_zero, List.set_cons_succ]
          refine held_take (v := .bool false) 15 rfl (by kernel_rfl) (by kernel_rfl) (by kernel_rfl) (fun _ _ _ h => h) (by rfl) (fun W hSw => (by go_simp)) (by assumption) ?_
          simp only [List.setIfInBounds_toArray, List.set_cons_zero, List.set_cons_succ]
          refine held_take (v := ?v728) 16 rfl (by kernel_rfl) (by kernel_rfl) (by kernel_rfl) (fun _ _ _ h => h) (by rfl) ?y728 (by assumption) ?_
          case y728 => (intro w hSw; unfold HeldR10 at hSw; go_simp; (try with_reducible rfl); (try omega))
          simp only [List.setIfInBounds_toArray, List.set_cons_zero, List.set_cons_succ]
          refine held_take (v := ?v731) 17 rfl (by kernel_rfl) (by kernel_rfl) (by kernel_rfl) (fun _ _ _ h => h) (by rfl) ?y731 (by assumption) ?_
          case y731 => (intro w hSw; unfold HeldR10 at hSw; go_simp; (try with_reducible rfl); (try omega))
          simp only [List.setIfInBounds_toArray, List.set_cons_zero, List.set_cons_succ]
          refine held_take (v := ?v734) 18 rfl (by kernel_rfl) (by kernel_rfl) (by kernel_rfl) (fun _ _ _ h => h) (by rfl) ?y734 (by assumption) ?_
          case y734 => (intro w hSw; unfold HeldR10 at hSw; go_simp; (try with_reducible rfl); (try omega))
          simp only [List.setIfInBounds_toArray, List.set_cons_zero, List.set_cons_succ]
          refine held_take (v := ?v737) 19 rfl (by kernel_rfl) (by kernel_rfl) (by kernel_rfl) (fun _ _ _ h => h) (by rfl) ?y737 (by assumption) ?_
          case y737 => (intro w hSw; unfold HeldR10 at hSw; go_simp; (try with_reducible rfl); (try omega))
          simp only [List.setIfInBounds_toArray, List.set_cons_zero, List.set_cons_succ]
          refine held_take (v := .bool false) 20 rfl (by kernel_rfl) (by kernel_rfl) (by kernel_rfl) (fun _ _ _ h => h) (by rfl) (fun W hSw => (by cases xb <;> go_simp)) (by assumption) ?_
          simp only [List.setIfInBounds_toArray, List.set_cons_zero, List.set_cons_succ]
          refine held_take (v := ?v742) 21 rfl (by kernel_rfl) (by kernel_rfl) (by kernel_rfl) (fun _ _ _ h => h) (by rfl) ?y742 (by assumption) ?_
          case y742 => (intro w hSw; unfold HeldR10 at hSw; go_simp; (try with_reducible rfl); (try omega))
          simp only [List.setIfInBounds_toArray, List.set_cons_zero, List.set_cons_succ]
          refine held_take (v := ?v745) 22 rfl (by kernel_rfl) (by kernel_rfl) (by kernel_rfl) (fun _ _ _ h => h) (by rfl) ?y745 (by assumption) ?_
          case y745 => (intro w hSw; unfold HeldR10 at hSw; go_simp; (try with_reducible rfl); (try omega))
          simp only [List.setIfInBounds_toArray, List.set_cons_zero, List.set_cons_succ]
          refine held_take (v := ?v748) 23 rfl (by kernel_rfl) (by kernel_rfl) (by kernel_rfl) (fun _ _ _ h => h) (by rfl) ?y748 (by assumption) ?_
          case y748 => (intro w hSw; unfold HeldR10 at hSw; go_simp; (try with_reducible rfl); (try omega))
          simp only [List.setIfInBounds_toArray, List.set_cons_zero, List.set_cons_succ]
          refine held_take (v := ?v751) 24 rfl (by kernel_rfl) (by kernel_rfl) (by kernel_rfl) (fun _ _ _ h => h) (by rfl) ?y751 (by assumption) ?_
          case y751 => (intro w hSw; unfold HeldR10 at hSw; go_simp; (try with_reducible rfl); (try omega))
          simp only [List.setIfInBounds_toArray, List.set_cons_zero, List.set_cons_succ]
          refine held_take (v := .bool false) 25 rfl (by kernel_rfl) (by kernel_rfl) (by kernel_rfl) (fun _ _ _ h => h) (by rfl) (fun W hSw => (by go_simp)) (by assumption) ?_
          simp only [List.setIfInBounds_toArray, List.set_cons_zero, List.set_cons_succ]
          refine held_take (v := ?v756) 26 rfl (by kernel_rfl) (by kernel_rfl) (by kernel_rfl) (fun _ _ _ h => h) (by rfl) ?y756 (by assumption) ?_
          case y756 => (intro w hSw; unfold HeldR10 at hSw; go_simp; (try with_reducible rfl); (try omega))
          simp only [List.setIfInBounds_toArray, List.set_cons_zero, List.set_cons_succ]
          refine held_take (v := ?v759) 27 rfl (by kernel_rfl) (by kernel_rfl) (by kernel_rfl) (fun _ _ _ h => h) (by rfl) ?y759 (by assumption) ?_
          case y759 => (intro w hSw; unfold HeldR10 at hSw; go_simp; (try with_reducible rfl); (try omega))
          simp only [List.setIfInBounds_toArray, List.set_cons_zero, List.set_cons_succ]
          refine held_take (v := ?v762) 28 rfl (by kernel_rfl) (by kernel_rfl) (by kernel_rfl) (fun _ _ _ h => h) (by rfl) ?y762 (by assumption) ?_
          case y762 => (intro w hSw; unfold HeldR10 at hSw; go_simp; (try with_reducible rfl); (try omega))
          simp only [List.setIfInBounds_toArray, List.set_cons_zero, List.set_cons_succ]
          refine held_take (v := ?v765) 29 rfl (by kernel_rfl) (by kernel_rfl) (by kernel_rfl) (fun _ _ _ h => h) (by rfl) ?y765 (by assumption) ?_
          case y765 => (intro w hSw; unfold HeldR10 at hSw; go_simp; (try with_reducible rfl); (try omega))
          simp only [List.setIfInBounds_toArray, List.set_cons_zero, List.set_cons_succ]
          refine held_take (v := .bool false) 30 rfl (by kernel_rfl) (by kernel_rfl) (by kernel_rfl) (fun _ _ _ h => h) (by rfl) (fun W hSw => (by cases yb <;> go_simp)) (by assumption) ?_
          simp only [List.setIfInBounds_toArray, List.set_cons_zero, List.set_cons_succ]
          refine held_take (v := ?v770) 31 rfl (by kernel_rfl) (by kernel_rfl) (by kernel_rfl) (fun _ _ _ h => h) (by rfl) ?y770 (by assumption) ?_
          case y770 => (intro w hSw; unfold HeldR10 at hSw; go_simp; (try with_reducible rfl); (try omega))
          simp only [List.setIfInBounds_toArray, List.set_cons_zero, List.set_cons_succ]
          refine held_take (v := ?v773) 32 rfl (by kernel_rfl) (by kernel_rfl) (by kernel_rfl) (fun _ _ _ h => h) (by rfl) ?y773 (by assumption) ?_
          case y773 => (intro w hSw; unfold HeldR10 at hSw; go_simp; (try with_reducible rfl); (try omega))
          simp only [List.setIfInBounds_toArray, List.set_cons_zero, List.set_cons_succ]
          refine held_take (v := ?v776) 33 rfl (by kernel_rfl) (by kernel_rfl) (by kernel_rfl) (fun _ _ _ h => h) (by rfl) ?y776 (by assumption) ?_
          case y776 => (intro w hSw; unfold HeldR10 at hSw; go_simp; (try with_reducible rfl); (try omega))
          simp only [List.setIfInBounds_toArray, List.set_cons_zero, List.set_cons_succ]
          refine held_take (v := ?v779) 34 rfl (by kernel_rfl) (by kernel_rfl) (by kernel_rfl) (fun _ _ _ h => h) (by rfl) ?y779 (by assumption) ?_
          case y779 => (intro w hSw; unfold HeldR10 at hSw; go_simp; (try with_reducible rfl); (try omega))
          simp only [List.setIfInBounds_toArray, List.set_cons_zero, List.set_cons_succ]
          refine held_take (v := ?v782) 35 rfl (by kernel_rfl) (by kernel_rfl) (by kernel_rfl) (fun _ _ _ h => h) (by rfl) ?y782 (by assumption) ?_
          case y782 => (intro w hSw; unfold HeldR10 at hSw; go_simp; (try with_reducible rfl); (try omega))
          simp only [List.setIfInBounds_toArray, List.set_cons_zero, List.set_cons_succ]
          refine held_take (v := fV is rd D1) 37 rfl (by kernel_rfl) (by kernel_rfl) (by kernel_rfl) (fun _ _ _ h => h) (by rfl) (fun W hSw => exec_load_any _ (.tmp 9) rfl bF 0 (fR is rd D1) _ rfl hSw.2.2.2.2.1 Try.underlying33 rfl f_info) (by assumption) ?_
          simp only [List.setIfInBounds_toArray, List.set_cons_zero, List.set_cons_succ]
          refine held_take (v := ?v787) 38 rfl (by kernel_rfl) (by kernel_rfl) (by kernel_rfl) (fun _ _ _ h => h) (by rfl) ?y787 (by assumption) ?_
          case y787 => (intro w hSw; unfold HeldR10 at hSw; go_simp; (try with_reducible rfl); (try omega))
          simp only [List.setIfInBounds_toArray, List.set_cons_zero, List.set_cons_succ]
          refine held_take (v := ?v790) 39 rfl (by kernel_rfl) (by kernel_rfl) (by kernel_rfl) (fun _ _ _ h => h) (by rfl) ?y790 (by assumption) ?_
          case y790 => (intro w hSw; unfold HeldR10 at hSw; go_simp; (try with_reducible rfl); (try omega))
          simp only [List.setIfInBounds_toArray, List.set_cons_zero, List.set_cons_succ]
          refine held_one 36 rfl (by kernel_rfl) (by rfl) (fun K hK => ?_)
          go_simp
          refine (HUS.out _ Bb.out.drew).mono ?_
          rintro e Wc ⟨rfl, bc⟩
          have Bc := Lib.hid ((Below.refl Wb.heap.size Wb).drew.trans (bc.mono (Below.refl Wb.heap.size Wb).drew.size))
          refine hK.out _ _ (HHR.out _ Bc.out) (fun _ => ?_)
          clear hK K bc HUS hHeld
          refine held_one 40 rfl (by kernel_rfl) (by rfl) (fun K hK => ?_)
          go_simp
          refine (HGU.out _ (Bb.out.trans (Bc.out.mono Bb.out.size))).mono ?_
          rintro e Wd ⟨rfl, bd⟩
          have Bd := Lib.hid (Bc.out.trans (bd.mono Bc.out.size))
          refine hK.out _ _ (HHR.out _ Bd.out) (fun _ => ?_)
          clear hK K bd HGU Bc
          refine held_take (v := .bool false) 41 rfl (by kernel_rfl) (by kernel_rfl) (by kernel_rfl) (fun _ _ _ h => h) (by rfl) (fun W hSw => (by go_simp)) (by assumption) ?_
          simp only [List.setIfInBounds_toArray, List.set_cons_zero, List.set_cons_succ]
          refine held_take (v := ?v809) 42 rfl (by kernel_rfl) (by kernel_rfl) (by kernel_rfl) (fun _ _ _ h => h) (by rfl) ?y809 (by assumption) ?_
          case y809 => (intro w hSw; unfold HeldR10 at hSw; go_simp; (try with_reducible rfl); (try omega))
          simp only [List.setIfInBounds_toArray, List.set_cons_zero, List.set_cons_succ]
          refine wpAnyH_done (by kernel_rfl) ?_ _
          refine NoPanic.normal ?_
          have HE := Lib.hid (HZ5.out.up (Bb.out.trans (Bd.out.mono Bb.out.size)))
          clear HZ5 Bb Bd HHR
          go_wp2
          go_roundw
          case rel => exact ⟨i + 1, L1, D1, by omega, by go_num, HLL.out, by rw [show 1 + 150 * (i + 1) = 1 + 150 * i + 150 by omega]; exact HE.out.z.with (Below.refl _ _) _ (fun k hk => .inl (.inl hk)), HE.out.p⟩
          case measure => simp [intOf]; omega
        · -- nothing
          have hk1b : (s.k == 1) = false := beq_eq_false_iff_ne.2 hk1
          have HLL : Hid (∀ t, (L t).length ≤ i + 1) := Lib.hid (fun t => by have := HL.out t; omega)
          obtain ⟨kk, hkk⟩ : ∃ kk, s.k = kk := ⟨_, rfl⟩
          rw [hkk] at c0 hk0b hk1b
          have HZ5 : Hid (RnF w p pt is rd L (1 + 150 * i + 150) bF L D SB s W1) := Lib.hid ⟨HZ1.out.z.more (by omega), HZ1.out.st, HZ1.out.p⟩
          clear hk0 hk1 hkk HZ1 c19
          generalize hL1 : L = L1 at *
          generalize hD1 : D = D1 at *
          clear hL1 hD1
          generalize W1 = W5 at *
          have hx16 : ((lookT s.p.addr (L1 s.p.six)).getD it0).1.addr.length = 16 := by
            cases hl : lookT s.p.addr (L1 s.p.six) with
            | none => rfl
            | some y => exact ((HZ5.out.z.orderA s.p.six).2 y (look_mem _ _ y hl).1).2.1
          have HX16 := Lib.hid hx16
          have HLS : Hid (∀ t, (L1 t).length ≤ 400000) := Lib.hid (fun t => by have := HLL.out t; omega)
          have HNN : Hid (1 + 150 * i + 150 ≤ 400000) := Lib.hid (by omega)
          have c1 := HZ5.out.six
          have RA := Lib.hid HZ5.out.adr
          have HLK : Hid (∀ W, Below W5.heap.size W5 W → Calls Try.prog 13 #[pt, .bool s.p.six, arrV s.p.addr] W fun e w' => e = .returned (.tuple #[itV ((lookT s.p.addr (L1 s.p.six)).getD it0).1 ((lookT s.p.addr (L1 s.p.six)).getD it0).2, .bool (lookT s.p.addr (L1 s.p.six)).isSome]) ∧ Below W.heap.size W w') := Lib.hid (fun W hW => by
            obtain ⟨X, h1, _⟩ := (HZ5.out.z.up hW).tab
            exact flook s.p.six s.p.addr W h1 H16.out)
          have HGK := Lib.hid (fun W (hW : Below W5.heap.size W5 W) => glook is rd D1 L1 s.p.six s.p.addr W s.p.six (HZ5.out.z.orderA s.p.six) (HZ5.out.z.up hW).lst H16.out HLS.out)
          have HGT : Hid (∀ W, Below W5.heap.size W5 W → Calls Try.prog 15 #[pt, s.p.val] W fun e w' => e = .returned (.tuple #[.int .i64 ((getT cmpP s.p (L1 s.p.six)).getD 0), .bool (getT cmpP s.p (L1 s.p.six)).isSome]) ∧ Below W.heap.size W w') := Lib.hid (fun W hW => by
            obtain ⟨X, h1, _⟩ := (HZ5.out.z.up hW).tab
            exact fget s.p W h1 H16.out)
          have HGG := Lib.hid (fun W (hW : Below W5.heap.size W5 W) => gget is rd D1 L1 s.p W (HZ5.out.z.up hW).lst H16.out HLS.out)
          have HUS : Hid (∀ W, Below W5.heap.size W5 W → Calls Try.prog 17 #[pt, .int .i64 s.v] W fun e w' => e = .returned (.int .i64 ((useL s.v (kindL L1)).length : Int)) ∧ Below W.heap.size W w') := Lib.hid (fun W hW => by
            obtain ⟨X, h1, _⟩ := (HZ5.out.z.up hW).tab
            exact fuses s.v h1 HNN.out)
          have HGU := Lib.hid (fun W (hW : Below W5.heap.size W5 W) => guses is rd D1 L1 s.v W (HZ5.out.z.up hW).lst HLS.out)
          clear hx16
          generalize (lookT s.p.addr (L1 s.p.six)).getD it0 = x at *
          generalize (lookT s.p.addr (L1 s.p.six)).isSome = xb at *
          generalize (getT cmpP s.p (L1 s.p.six)).getD 0 = y at *
          generalize (getT cmpP s.p (L1 s.p.six)).isSome = yb at *
          generalize ((useL s.v (kindL L1)).length : Int) = un at *
          go_wp2_with (first
            | (refine plV rfl (arrV s.p.addr) (exec_load_any _ (.tmp 88) rfl SB 2 (byteVals s.p.addr) _ rfl RA.out Try.underlying23 rfl (by rw [byteVals_length, H16.out]; exact arr16P.info)) ?_)
            | (go_at_call 13; refine (HLK.out _ (Below.refl _ _)).mono ?_; rintro e W6 ⟨rfl, b6⟩; refine Hid.out ?_))
          refine Lib.hid ?_
          have hbC : Below W6.heap.size W6 (W6.alloc (.cells (itR x.1 x.2).toArray 44)) := (Below.refl _ _).alloc (Nat.le_refl _) _
          have B7 := Lib.hid (below_up b6 hbC b6.size)
          have HXC := Lib.hid (Bx.new W6 44 (itR x.1 x.2))
          clear hbC b6 RA c1 HLK
          rw [show itV x.1 x.2 = .agg (itR x.1 x.2).toArray from rfl]
          go_wp2_with (refine wpList_store_fresh rfl 44 (.tmp 18) (.tmp 91) rfl (itR x.1 x.2) _ W6.heap.size rfl rfl rfl (it_infoC HX16.out x.2) (by rw [it_len HX16.out]; rfl) (it_one _ _) ?_; refine Hid.out ?_)
          refine Lib.hid ?_
          generalize W6.alloc (.cells (itR x.1 x.2).toArray 44) = W7 at *
          generalize W6.heap.size = C1 at *
          have HZ7 := Lib.hid (HZ5.out.up B7.out)
          have c1 := HZ7.out.six
          have RA := Lib.hid HZ7.out.adr
          have RF := Lib.hid HZ7.out.f
          go_wp2_with (first
            | (refine plV rfl (fV is rd D1) (exec_load_any _ (.tmp 9) rfl bF 0 (fR is rd D1) _ rfl RF.out Try.underlying33 rfl f_info) ?_)
            | (refine plV rfl (arrV s.p.addr) (exec_load_any _ (.tmp 99) rfl SB 2 (byteVals s.p.addr) _ rfl RA.out Try.underlying23 rfl (by rw [byteVals_length, H16.out]; exact arr16P.info)) ?_)
            | (go_at_call 14; refine (HGK.out _ B7.out).mono ?_; rintro e W8 ⟨rfl, b8⟩; refine Hid.out ?_))
          refine Lib.hid ?_
          have hbC : Below W8.heap.size W8 (W8.alloc (.cells (itR x.1 x.2).toArray 47)) := (Below.refl _ _).alloc (Nat.le_refl _) _
          have B9 := Lib.hid ((B7.out.trans (b8.mono B7.out.size)).trans (hbC.mono (Nat.le_trans B7.out.size b8.size)))
          have HXC9 := Lib.hid ((HXC.out.up b8).up hbC)
          have HXI := Lib.hid (Bx.new W8 47 (itR x.1 x.2))
          clear hbC b8 RA c1 RF HGK HZ7 B7 HXC
          rw [show itV x.1 x.2 = .agg (itR x.1 x.2).toArray from rfl]
          go_wp2_with (refine wpList_store_fresh rfl 47 (.tmp 20) (.tmp 102) rfl (itR x.1 x.2) _ W8.heap.size rfl rfl rfl (i_infoC HX16.out x.2) (by rw [it_len HX16.out]; rfl) (it_one _ _) ?_; refine Hid.out ?_)
          refine Lib.hid ?_
          generalize W8.alloc (.cells (itR x.1 x.2).toArray 47) = W9 at *
          generalize W8.heap.size = C2 at *
          have RP := Lib.hid (HZ5.out.up B9.out).pfx
          go_wp2_with (first
            | (refine plV rfl s.p.val (exec_load_any _ (.tmp 106) rfl SB 1 s.p.row _ rfl RP.out Try.underlying25 rfl (pf_infoC H16.out)) ?_)
            | (go_at_call 15; refine (HGT.out _ B9.out).mono ?_; rintro e Wa ⟨rfl, ba⟩; refine Hid.out ?_))
          refine Lib.hid ?_
          have Ba := Lib.hid (B9.out.trans (ba.mono B9.out.size))
          have HXCa := Lib.hid (HXC9.out.up ba)
          have HXIa := Lib.hid (HXI.out.up ba)
          have RPa := Lib.hid (HZ5.out.up Ba.out).pfx
          have RFa := Lib.hid (HZ5.out.up Ba.out).f
          clear ba RP B9 HXC9 HXI HGT
          go_wp2_with (first
            | (refine plV rfl (fV is rd D1) (exec_load_any _ (.tmp 9) rfl bF 0 (fR is rd D1) _ rfl RFa.out Try.underlying33 rfl f_info) ?_)
            | (refine plV rfl s.p.val (exec_load_any _ (.tmp 113) rfl SB 1 s.p.row _ rfl RPa.out Try.underlying25 rfl (pf_infoC H16.out)) ?_)
            | (go_at_call 16; refine (HGG.out _ Ba.out).mono ?_; rintro e Wb ⟨rfl, bb⟩; refine Hid.out ?_))
          refine Lib.hid ?_
          have Bb := Lib.hid (Ba.out.trans (bb.mono Ba.out.size))
          have HXCb := Lib.hid (HXCa.out.up bb)
          have HXIb := Lib.hid (HXIa.out.up bb)
          have HHR := Lib.hid (fun W (hW : Below Wb.heap.size Wb W) => (⟨(HXCb.out.up hW).range 0 _ it_pre, (HXIb.out.up hW).range 0 _ it_pre, by rw [(HXCb.out.up hW).cell]; exact it_v HX16.out, by rw [(HXIb.out.up hW).cell]; exact it_v HX16.out, (HZ5.out.up (Bb.out.trans (hW.mono Bb.out.size))).f, (HZ5.out.up (Bb.out.trans (hW.mono Bb.out.size))).v H16.out⟩ : HeldR10 C1 C2 bF SB x.1.row (fR is rd D1) x.2 s.v W))
          clear bb RPa RFa Ba HXCa HXIa HGG HXCb HXIb
          go_wp2
          refine wp_region_noPanic ?_
          refine wp_region_held_drew (S := HeldR10 C1 C2 bF SB x.1.row (fR is rd D1) x.2 s.v) (by kernel_rfl) (HHR.out _ (Below.refl _ _).drew) (fun hHeld => ?_)
          refine held_take (v := ?v914) 0 rfl (by kernel_rfl) (by kernel_rfl) (by kernel_rfl) (fun _ _ _ h => h) (by rfl) ?y914 (by assumption) ?_
          case y914 => (intro w hSw; unfold HeldR10 at hSw; go_simp; (try with_reducible rfl); (try omega))
          simp only [List.setIfInBounds_toArray, List.set_cons_zero, List.set_cons_succ]
          refine held_take (v := ?v917) 1 rfl (by kernel_rfl) (by kernel_rfl) (by kernel_rfl) (fun _ _ _ h => h) (by rfl) ?y917 (by assumption) ?_
          case y917 => (intro w hSw; unfold HeldR10 at hSw; go_simp; (try with_reducible rfl); (try omega))
          simp only [List.setIfInBounds_toArray, List.set_cons_zero, List.set_cons_succ]
          refine held_take (v := .bool false) 2 rfl (by kernel_rfl) (by kernel_rfl) (by kernel_rfl) (fun _ _ _ h => h) (by rfl) (fun W hSw => (by go_simp)) (by assumption) ?_
          simp only [List.setIfInBounds_toArray, List.set_cons_zero, List.set_cons_succ]
          refine held_take (v := ?v922) 3 rfl (by kernel_rfl) (by kernel_rfl) (by kernel_rfl) (fun _ _ _ h => h) (by rfl) ?y922 (by assumption) ?_
          case y922 => (intro w hSw; unfold HeldR10 at hSw; go_simp; (try with_reducible rfl); (try omega))
          simp only [List.setIfInBounds_toArray, List.set_cons_zero, List.set_cons_succ]
          refine held_take (v := ?v925) 4 rfl (by kernel_rfl) (by kernel_rfl) (by kernel_rfl) (fun _ _ _ h => h) (by rfl) ?y925 (by assumption) ?_
          case y925 => (intro w hSw; unfold HeldR10 at hSw; go_simp; (try with_reducible rfl); (try omega))
          simp only [List.setIfInBounds_toArray, List.set_cons_zero, List.set_cons_succ]
          refine held_take (v := x.1.val) 5 rfl (by kernel_rfl) (by kernel_rfl) (by kernel_rfl) (fun _ _ _ h => h) (by rfl) (fun W hSw => exec_load_any _ (.tmp 122) rfl C1 0 x.1.row _ rfl hSw.1 Try.underlying25 rfl (pf_infoC HX16.out)) (by assumption) ?_
          simp only [List.setIfInBounds_toArray, List.set_cons_zero, List.set_cons_succ]
          refine held_take (v := ?v930) 6 rfl (by kernel_rfl) (by kernel_rfl) (by kernel_rfl) (fun _ _ _ h => h) (by rfl) ?y930 (by assumption) ?_
          case y930 => (intro w hSw; unfold HeldR10 at hSw; go_simp; (try with_reducible rfl); (try omega))
          simp only [List.setIfInBounds_toArray, List.set_cons_zero, List.set_cons_succ]
          refine held_take (v := x.1.val) 7 rfl (by kernel_rfl) (by kernel_rfl) (by kernel_rfl) (fun _ _ _ h => h) (by rfl) (fun W hSw => exec_load_any _ (.tmp 124) rfl C2 0 x.1.row _ rfl hSw.2.1 Try.underlying25 rfl (pf_infoC HX16.out)) (by assumption) ?_
          simp only [List.setIfInBounds_toArray, List.set_cons_zero, List.set_cons_succ]
          refine held_take (v := .bool false) 8 rfl (by kernel_rfl) (by kernel_rfl) (by kernel_rfl) (fun _ _ _ h => h) (by rfl) (fun W hSw => (exec_neq_pfx 123 125 _ rfl x.1 x.1 HX16.out HX16.out rfl rfl).trans (by rw [eqP_self]; rfl)) (by assumption) ?_
          simp only [List.setIfInBounds_toArray, List.set_cons_zero, List.set_cons_succ]
          refine held_take (v := ?v937) 9 rfl (by kernel_rfl) (by kernel_rfl) (by kernel_rfl) (fun _ _ _ h => h) (by rfl) ?y937 (by assumption) ?_
          case y937 => (intro w hSw; unfold HeldR10 at hSw; go_simp; (try with_reducible rfl); (try omega))
          simp only [List.setIfInBounds_toArray, List.set_cons_zero, List.set_cons_succ]
          refine held_take (v := ?v940) 10 rfl (by kernel_rfl) (by kernel_rfl) (by kernel_rfl) (fun _ _ _ h => h) (by rfl) ?y940 (by assumption) ?_
          case y940 => (intro w hSw; unfold HeldR10 at hSw; go_simp; (try with_reducible rfl); (try omega))
          simp only [List.setIfInBounds_toArray, List.set_cons_zero, List.set_cons_succ]
          refine held_take (v := ?v943) 11 rfl (by kernel_rfl) (by kernel_rfl) (by kernel_rfl) (fun _ _ _ h => h) (by rfl) ?y943 (by assumption) ?_
          case y943 => (intro w hSw; unfold HeldR10 at hSw; go_simp; (try with_reducible rfl); (try omega))
          simp only [List.setIfInBounds_toArray, List.set_cons_zero, List.set_cons_succ]
          refine held_take (v := ?v946) 12 rfl (by kernel_rfl) (by kernel_rfl) (by kernel_rfl) (fun _ _ _ h => h) (by rfl) ?y946 (by assumption) ?_
          case y946 => (intro w hSw; unfold HeldR10 at hSw; go_simp; (try with_reducible rfl); (try omega))
          simp only [List.setIfInBounds_toArray, List.set_cons_zero, List.set_cons_succ]
          refine held_take (v := ?v949) 13 rfl (by kernel_rfl) (by kernel_rfl) (by kernel_rfl) (fun _ _ _ h => h) (by rfl) ?y949 (by assumption) ?_
          case y949 => (intro w hSw; unfold HeldR10 at hSw; go_simp; (try with_reducible rfl); (try omega))
          simp only [List.setIfInBounds_toArray, List.set_cons_zero, List.set_cons_succ]
          refine held_take (v := ?v952) 14 rfl (by kernel_rfl) (by kernel_rfl) (by kernel_rfl) (fun _ _ _ h => h) (by rfl) ?y952 (by assumption) ?_
          case y952 => (intro w hSw; unfold HeldR10 at hSw; go_simp; (try with_reducible rfl); (try omega))
          simp only [List.setIfInBounds_toArray, List.set_cons_zero, List.set_cons_succ]
          refine held_take (v := .bool false) 15 rfl (by kernel_rfl) (by kernel_rfl) (by kernel_rfl) (fun _ _ _ h => h) (by rfl) (fun W hSw => (by go_simp)) (by assumption) ?_
          simp only [List.setIfInBounds_toArray, List.set_cons_zero, List.set_cons_succ]
          refine held_take (v := ?v957) 16 rfl (by kernel_rfl) (by kernel_rfl) (by kernel_rfl) (fun _ _ _ h => h) (by rfl) ?y957 (by assumption) ?_
          case y957 => (intro w hSw; unfold HeldR10 at hSw; go_simp; (try with_reducible rfl); (try omega))
          simp only [List.setIfInBounds_toArray, List.set_cons_zero, List.set_cons_succ]
          refine held_take (v := ?v960) 17 rfl (by kernel_rfl) (by kernel_rfl) (by kernel_rfl) (fun _ _ _ h => h) (by rfl) ?y960 (by assumption) ?_
          case y960 => (intro w hSw; unfold HeldR10 at hSw; go_simp; (try with_reducible rfl); (try omega))
          simp only [List.setIfInBounds_toArray, List.set_cons_zero, List.set_cons_succ]
          refine held_take (v := ?v963) 18 rfl (by kernel_rfl) (by kernel_rfl) (by kernel_rfl) (fun _ _ _ h => h) (by rfl) ?y963 (by assumption) ?_
          case y963 => (intro w hSw; unfold HeldR10 at hSw; go_simp; (try with_reducible rfl); (try omega))
          simp only [List.setIfInBounds_toArray, List.set_cons_zero, List.set_cons_succ]
          refine held_take (v := ?v966) 19 rfl (by kernel_rfl) (by kernel_rfl) (by kernel_rfl) (fun _ _ _ h => h) (by rfl) ?y966 (by assumption) ?_
          case y966 => (intro w hSw; unfold HeldR10 at hSw; go_simp; (try with_reducible rfl); (try omega))
          simp only [List.setIfInBounds_toArray, List.set_cons_zero, List.set_cons_succ]
          refine held_take (v := .bool false) 20 rfl (by kernel_rfl) (by kernel_rfl) (by kernel_rfl) (fun _ _ _ h => h) (by rfl) (fun W hSw => (by cases xb <;> go_simp)) (by assumption) ?_
          simp only [List.setIfInBounds_toArray, List.set_cons_zero, List.set_cons_succ]
          refine held_take (v := ?v971) 21 rfl (by kernel_rfl) (by kernel_rfl) (by kernel_rfl) (fun _ _ _ h => h) (by rfl) ?y971 (by assumption) ?_
          case y971 => (intro w hSw; unfold HeldR10 at hSw; go_simp; (try with_reducible rfl); (try omega))
          simp only [List.setIfInBounds_toArray, List.set_cons_zero, List.set_cons_succ]
          refine held_take (v := ?v974) 22 rfl (by kernel_rfl) (by kernel_rfl) (by kernel_rfl) (fun _ _ _ h => h) (by rfl) ?y974 (by assumption) ?_
          case y974 => (intro w hSw; unfold HeldR10 at hSw; go_simp; (try with_reducible rfl); (try omega))
          simp only [List.setIfInBounds_toArray, List.set_cons_zero, List.set_cons_succ]
          refine held_take (v := ?v977) 23 rfl (by kernel_rfl) (by kernel_rfl) (by kernel_rfl) (fun _ _ _ h => h) (by rfl) ?y977 (by assumption) ?_
          case y977 => (intro w hSw; unfold HeldR10 at hSw; go_simp; (try with_reducible rfl); (try omega))
          simp only [List.setIfInBounds_toArray, List.set_cons_zero, List.set_cons_succ]
          refine held_take (v := ?v980) 24 rfl (by kernel_rfl) (by kernel_rfl) (by kernel_rfl) (fun _ _ _ h => h) (by rfl) ?y980 (by assumption) ?_
          case y980 => (intro w hSw; unfold HeldR10 at hSw; go_simp; (try with_reducible rfl); (try omega))
          simp only [List.setIfInBounds_toArray, List.set_cons_zero, List.set_cons_succ]
          refine held_take (v := .bool false) 25 rfl (by kernel_rfl) (by kernel_rfl) (by kernel_rfl) (fun _ _ _ h => h) (by rfl) (fun W hSw => (by go_simp)) (by assumption) ?_
          simp only [List.setIfInBounds_toArray, List.set_cons_zero, List.set_cons_succ]
          refine held_take (v := ?v985) 26 rfl (by kernel_rfl) (by kernel_rfl) (by kernel_rfl) (fun _ _ _ h => h) (by rfl) ?y985 (by assumption) ?_
          case y985 => (intro w hSw; unfold HeldR10 at hSw; go_simp; (try with_reducible rfl); (try omega))
          simp only [List.setIfInBounds_toArray, List.set_cons_zero, List.set_cons_succ]
          refine held_take (v := ?v988) 27 rfl (by kernel_rfl) (by kernel_rfl) (by kernel_rfl) (fun _ _ _ h => h) (by rfl) ?y988 (by assumption) ?_
          case y988 => (intro w hSw; unfold HeldR10 at hSw; go_simp; (try with_reducible rfl); (try omega))
          simp only [List.setIfInBounds_toArray, List.set_cons_zero, List.set_cons_succ]
          refine held_take (v := ?v991) 28 rfl (by kernel_rfl) (by kernel_rfl) (by kernel_rfl) (fun _ _ _ h => h) (by rfl) ?y991 (by assumption) ?_
          case y991 => (intro w hSw; unfold HeldR10 at hSw; go_simp; (try with_reducible rfl); (try omega))
          simp only [List.setIfInBounds_toArray, List.set_cons_zero, List.set_cons_succ]
          refine held_take (v := ?v994) 29 rfl (by kernel_rfl) (by kernel_rfl) (by kernel_rfl) (fun _ _ _ h => h) (by rfl) ?y994 (by assumption) ?_
          case y994 => (intro w hSw; unfold HeldR10 at hSw; go_simp; (try with_reducible rfl); (try omega))
          simp only [List.setIfInBounds_toArray, List.set_cons_zero, List.set_cons_succ]
          refine held_take (v := .bool false) 30 rfl (by kernel_rfl) (by kernel_rfl) (by kernel_rfl) (fun _ _ _ h => h) (by rfl) (fun W hSw => (by cases yb <;> go_simp)) (by assumption) ?_
          simp only [List.setIfInBounds_toArray, List.set_cons_zero, List.set_cons_succ]
          refine held_take (v := ?v999) 31 rfl (by kernel_rfl) (by kernel_rfl) (by kernel_rfl) (fun _ _ _ h => h) (by rfl) ?y999 (by assumption) ?_
          case y999 => (intro w hSw; unfold HeldR10 at hSw; go_simp; (try with_reducible rfl); (try omega))
          simp only [List.setIfInBounds_toArray, List.set_cons_zero, List.set_cons_succ]
          refine held_take (v := ?v1002) 32 rfl (by kernel_rfl) (by kernel_rfl) (by kernel_rfl) (fun _ _ _ h => h) (by rfl) ?y1002 (by assumption) ?_
          case y1002 => (intro w hSw; unfold HeldR10 at hSw; go_simp; (try with_reducible rfl); (try omega))
          simp only [List.setIfInBounds_toArray, List.set_cons_zero, List.set_cons_succ]
          refine held_take (v := ?v1005) 33 rfl (by kernel_rfl) (by kernel_rfl) (by kernel_rfl) (fun _ _ _ h => h) (by rfl) ?y1005 (by assumption) ?_
          case y1005 => (intro w hSw; unfold HeldR10 at hSw; go_simp; (try with_reducible rfl); (try omega))
          simp only [List.setIfInBounds_toArray, List.set_cons_zero, List.set_cons_succ]
          refine held_take (v := ?v1008) 34 rfl (by kernel_rfl) (by kernel_rfl) (by kernel_rfl) (fun _ _ _ h => h) (by rfl) ?y1008 (by assumption) ?_
          case y1008 => (intro w hSw; unfold HeldR10 at hSw; go_simp; (try with_reducible rfl); (try omega))
          simp only [List.setIfInBounds_toArray, List.set_cons_zero, List.set_cons_succ]
          refine held_take (v := ?v1011) 35 rfl (by kernel_rfl) (by kernel_rfl) (by kernel_rfl) (fun _ _ _ h => h) (by rfl) ?y1011 (by assumption) ?_
          case y1011 => (intro w hSw; unfold HeldR10 at hSw; go_simp; (try with_reducible rfl); (try omega))
          simp only [List.setIfInBounds_toArray, List.set_cons_zero, List.set_cons_succ]
          refine held_take (v := fV is rd D1) 37 rfl (by kernel_rfl) (by kernel_rfl) (by kernel_rfl) (fun _ _ _ h => h) (by rfl) (fun W hSw => exec_load_any _ (.tmp 9) rfl bF 0 (fR is rd D1) _ rfl hSw.2.2.2.2.1 Try.underlying33 rfl f_info) (by assumption) ?_
          simp only [List.setIfInBounds_toArray, List.set_cons_zero, List.set_cons_succ]
          refine held_take (v := ?v1016) 38 rfl (by kernel_rfl) (by kernel_rfl) (by kernel_rfl) (fun _ _ _ h => h) (by rfl) ?y1016 (by assumption) ?_
          case y1016 => (intro w hSw; unfold HeldR10 at hSw; go_simp; (try with_reducible rfl); (try omega))
          simp only [List.setIfInBounds_toArray, List.set_cons_zero, List.set_cons_succ]
          refine held_take (v := ?v1019) 39 rfl (by kernel_rfl) (by kernel_rfl) (by kernel_rfl) (fun _ _ _ h => h) (by rfl) ?y1019 (by assumption) ?_
          case y1019 => (intro w hSw; unfold HeldR10 at hSw; go_simp; (try with_reducible rfl); (try omega))
          simp only [List.setIfInBounds_toArray, List.set_cons_zero, List.set_cons_succ]
          refine held_one 36 rfl (by kernel_rfl) (by rfl) (fun K hK => ?_)
          go_simp
          refine (HUS.out _ Bb.out.drew).mono ?_
          rintro e Wc ⟨rfl, bc⟩
          have Bc := Lib.hid ((Below.refl Wb.heap.size Wb).drew.trans (bc.mono (Below.refl Wb.heap.size Wb).drew.size))
          refine hK.out _ _ (HHR.out _ Bc.out) (fun _ => ?_)
          clear hK K bc HUS hHeld
          refine held_one 40 rfl (by kernel_rfl) (by rfl) (fun K hK => ?_)
          go_simp
          refine (HGU.out _ (Bb.out.trans (Bc.out.mono Bb.out.size))).mono ?_
          rintro e Wd ⟨rfl, bd⟩
          have Bd := Lib.hid (Bc.out.trans (bd.mono Bc.out.size))
          refine hK.out _ _ (HHR.out _ Bd.out) (fun _ => ?_)
          clear hK K bd HGU Bc
          refine held_take (v := .bool false) 41 rfl (by kernel_rfl) (by kernel_rfl) (by kernel_rfl) (fun _ _ _ h => h) (by rfl) (fun W hSw => (by go_simp)) (by assumption) ?_
          simp only [List.setIfInBounds_toArray, List.set_cons_zero, List.set_cons_succ]
          refine held_take (v := ?v1038) 42 rfl (by kernel_rfl) (by kernel_rfl) (by kernel_rfl) (fun _ _ _ h => h) (by rfl) ?y1038 (by assumption) ?_
          case y1038 => (intro w hSw; unfold HeldR10 at hSw; go_simp; (try with_reducible rfl); (try omega))
          simp only [List.setIfInBounds_toArray, List.set_cons_zero, List.set_cons_succ]
          refine wpAnyH_done (by kernel_rfl) ?_ _
          refine NoPanic.normal ?_
          have HE := Lib.hid (HZ5.out.up (Bb.out.trans (Bd.out.mono Bb.out.size)))
          clear HZ5 Bb Bd HHR
          go_wp2
          go_roundw
          case rel => exact ⟨i + 1, L1, D1, by omega, by go_num, HLL.out, by rw [show 1 + 150 * (i + 1) = 1 + 150 * i + 150 by omega]; exact HE.out.z.with (Below.refl _ _) _ (fun k hk => .inl (.inl hk)), HE.out.p⟩
          case measure => simp [intOf]; omega
end Go.Proofs.Ytgimcapcnidjjaa

/- LpmAgain: what is put and deleted again leaves the table as it was. -/
import Derived.Test.YtecefdocemkliaaAw9b
import Derived.Test.YtecefdocemkliaaDuo9
import Derived.Test.YtecefdocemkliaaH9
namespace Go.Proofs.Ytecefdocemkliaa
open Go Go.RowKit

theorem wp_store_bx {o : Oper} {a : Act} {w : World} {K : Act → World → Prop} {Q : Exit → Act → World → Prop} (ty : TypeId) (x y : Operand) (ho : o.op = .store ty x y) (g : Nat) (l m : List Value) (hx : a.eval x = .pointer (some ⟨g, 0, none⟩)) (hy : a.eval y = .agg l.toArray)
    (hg : Bx w g ty m) (hi : (Try.prog.info? ty).map (·.size) = some l.length) (hold : m.length = l.length) (h1 : ∀ v ∈ l, v.oneCell' = true)
    (h : K (a.put o.dst undef) (w.setRow g l.toArray)) : Oper.wp Try.prog o a w K Q :=
  wp_store_row ty x y ho g l.toArray hx hy ty _ hg (by simpa using hi) (by simpa using hold) (all_oneCell_toArray h1) h
def HeldG (bT : Nat) (l : List Value) (b k : Nat) (m : List Value) (x : Int) (W : World) : Prop := W.rangeAt bT 0 l ∧ W.rangeAt b (k + 1) m ∧ W.cell? ⟨b, k + 19, none⟩ = some (.int .i64 x)
theorem HeldG.up {bT b k : Nat} {l m : List Value} {x : Int} {W W' : World} (h : HeldG bT l b k m x W) (h1 : bT < W.heap.size) (h2 : b < W.heap.size) (hB : Below W.heap.size W W') : HeldG bT l b k m x W' :=
  ⟨fun i v hv => (hB.cell (p := ⟨bT, 0 + i, none⟩) h1).trans (h.1 i v hv), fun i v hv => (hB.cell (p := ⟨b, k + 1 + i, none⟩) h2).trans (h.2.1 i v hv), (hB.cell (p := ⟨b, k + 19, none⟩) h2).trans h.2.2⟩
/-- Behind the document's Put: its answer lies in a new box. -/
structure NextZ (is six : Bool) (room : Int) (W0 : World) (a : Option Addr) (L : List (Pfx × Int)) (bN : Nat) (a1 : Option Addr) (n1 cap1 : Nat) (L1 : List (Pfx × Int)) (W : World) : Prop where
  box : Bx W bN 28 (tR is six room (.slice a1 n1 cap1))
  lst : IsC itF 19 W (.slice a1 n1 cap1) L1
  src : (a1 = a ∧ L1 = L) ∨ ∀ x, a1 = some x → W0.heap.size ≤ x.block
  below : Below W0.heap.size W0 W
theorem nextA {is six : Bool} {room : Int} {W0 W4 : World} {a a1 : Option Addr} {n1 cap1 : Nat} {L L1 : List (Pfx × Int)} (l : IsC itF 19 W4 (.slice a1 n1 cap1) L1) (d : (a1 = a ∧ L1 = L) ∨ ∀ x, a1 = some x → W0.heap.size ≤ x.block) (b : Below W0.heap.size W0 W4) (cs : Array Value) (hcs : cs = (tR false false 0 (.slice none 0 0)).toArray) :
    NextZ is six room W0 a L W4.heap.size a1 n1 cap1 L1 ((W4.alloc (.cells cs 28)).setRow W4.heap.size (tR is six room (.slice a1 n1 cap1)).toArray) := by
  subst hcs
  have hb : Below W4.heap.size W4 ((W4.alloc (.cells (tR false false 0 (.slice none 0 0)).toArray 28)).setRow W4.heap.size (tR is six room (.slice a1 n1 cap1)).toArray) := below_row ((Below.refl _ _).alloc (Nat.le_refl _) _) (Nat.le_refl _) _
  exact ⟨(Bx.new W4 _ _).row _, l.below hb, d, below_up b hb b.size⟩
theorem nextB {is six : Bool} {room : Int} {W0 W5 : World} {a a1 : Option Addr} {n n1 cap cap1 : Nat} {L L1 : List (Pfx × Int)} {cs : Array Value} (h0 : IsC itF 19 W0 (.slice a n cap) L) (l : IsC itF 19 W5 (.slice a1 n1 cap1) L1) (d : (a1 = a ∧ L1 = L) ∨ ∀ x, a1 = some x → (W0.alloc (.cells cs 28)).heap.size ≤ x.block) (b : Below (W0.alloc (.cells cs 28)).heap.size (W0.alloc (.cells cs 28)) W5) (hcs : cs = (tR false false 0 (.slice none 0 0)).toArray) :
    Bx W5 W0.heap.size 28 (tR false false 0 (.slice none 0 0)) ∧
    NextZ is six room W0 a L W0.heap.size a1 n1 cap1 L1 (W5.setRow W0.heap.size (tR is six room (.slice a1 n1 cap1)).toArray) := by
  subst hcs
  have hb : Below W0.heap.size W0 (W0.alloc (.cells (tR false false 0 (.slice none 0 0)).toArray 28)) := (Below.refl _ _).alloc (Nat.le_refl _) _
  have hx := (Bx.new W0 28 (tR false false 0 (.slice none 0 0))).up b
  have hb5 := below_up hb b hb.size
  rw [World.size_alloc] at d
  refine ⟨hx, hx.row _, isC_row l _ _ (fun hl x e => ?_), ?_, below_row hb5 (Nat.le_refl _) _⟩
  · rcases d with ⟨rfl, rfl⟩ | d
    · obtain ⟨_, _, _, h3⟩ := h0.shape
      obtain ⟨b', k', e2, hb', _⟩ := h3 hl
      rw [e2] at e
      cases e
      simp only
      omega
    · have := d x e
      omega
  · rcases d with d | d
    · exact .inl d
    · exact .inr fun x e => by have := d x e; omega
theorem again_put {six : Bool} {L : List (Pfx × Int)} (ho : InOrder cmpP (okP six) L) (p : Pfx) (hp : p.addr.length = 16) (hs : p.six = six) (v : Int) (hn : getT cmpP p L = none) :
    (chkP p = false ∧ rputE true six 30 L p = 1 ∧ rputL true six 30 L p v = L) ∨ ((L.length : Int) = 30 ∧ rputE true six 30 L p = 30 ∧ rputL true six 30 L p v = L) ∨
    (rputE true six 30 L p = 0 ∧ getT cmpP p (rputL true six 30 L p v) = some v ∧ rdelE true six (rputL true six 30 L p v) p = 0 ∧ rdelL true six (rputL true six 30 L p v) p = L ∧ rdelE true six L p = 31 ∧ rdelL true six L p = L) := by
  have hi : isT cmpP p L = false := by rw [isT_get, hn]; rfl
  cases hc : chkP p with
  | false =>
    have h1 : rputE true six 30 L p = 1 := by unfold rputE; rw [hc]; rfl
    refine .inl ⟨rfl, h1, ?_⟩
    unfold rputL
    rw [h1, if_neg (by omega)]
  | true =>
    have hr : (true && (chkP p && (p.six == six))) = true := by rw [hc, hs]; simp
    by_cases h30 : (L.length : Int) = 30
    · have h1 : rputE true six 30 L p = 30 := by unfold rputE; rw [if_pos hr, if_pos ⟨hi, h30⟩]
      refine .inr (.inl ⟨h30, h1, ?_⟩)
      unfold rputL
      rw [h1, if_neg (by omega)]
    · have hok : okP six p := ⟨hs, hp, hc⟩
      have h1 : rputE true six 30 L p = 0 := by unfold rputE; rw [if_pos hr, if_neg (fun h => h30 h.2)]
      have h2 : rputL true six 30 L p v = putT cmpP p v L := by unfold rputL; rw [h1, if_pos rfl]
      have h3 : getT cmpP p (putT cmpP p v L) = some v := by rw [getT_putT (cmpP_ord6 six) p p hok hok v L ho, if_pos ((cmpP_ord6 six).refl p)]
      have h4 : isT cmpP p (putT cmpP p v L) = true := by rw [isT_get, h3]; rfl
      have h5 : rdelE true six (putT cmpP p v L) p = 0 := by unfold rdelE; rw [if_pos hr, h4, if_neg (by simp)]
      have h6 : rdelE true six L p = 31 := by unfold rdelE; rw [if_pos hr, if_pos hi]
      refine .inr (.inr ⟨h1, ?_, ?_, ?_, h6, ?_⟩)
      · rw [h2, h3]
      · rw [h2, h5]
      · rw [h2]; unfold rdelL; rw [h5, if_pos rfl]; exact put_del (cmpP_ord6 six) p hok v L ho hn
      · unfold rdelL; rw [h6, if_neg (by omega)]
set_option maxRecDepth 100000 in
set_option maxHeartbeats 16000000 in
theorem again_walk (sa : Option Addr) (sn scap : Nat) (st : List Stp) (p : Pfx) (v : Int) (w : World) (hS : IsC stF 20 w (.slice sa sn scap) st) (hok : ∀ s ∈ st, s.p.addr.length = 16) (hp : p.addr.length = 16) (_h1 : -9223372036854775808 ≤ p.len) (_h2 : p.len ≤ 9223372036854775807) (_h3 : -9223372036854775808 ≤ v) (_h4 : v ≤ 9223372036854775807) :
    Calls Try.prog 4 #[.slice sa sn scap, p.val, .int .i64 v] w fun e w' => e = .returned (.bool true) ∧ Below w.heap.size w w' := by
  have HA := Lib.hid (fun W => awake9 W)
  have hb : Below w.heap.size w (w.alloc (.cells p.row.toArray 32)) := (Below.refl _ _).alloc (Nat.le_refl _) _
  have HX := Lib.hid (Bx.new w 32 p.row)
  have HB := Lib.hid hb
  have HSC := Lib.hid hS
  have HOK := Lib.hid hok
  have HP := Lib.hid hp
  have HXS := Lib.hid hb.size
  obtain ⟨rfl, hcap, hcm, _⟩ := hS.shape
  unfold maxLen at hcm
  rw [show p.val = .agg p.row.toArray from rfl]
  clear hS hok hp hb _h1 _h2 _h3 _h4
  by_cases h40 : 40 < st.length
  · have h40i : (40 : Int) < (st.length : Int) := by omega
    go_enter Try.func4, Try.ntmps4
    go_wp2_with (go_at_call 5; refine (HA.out _).mono ?_; rintro e w1 ⟨rfl, b1⟩; refine Hid.out ?_)
    refine Lib.hid ?_
    go_wp2
    go_ret
    exact ⟨rfl, below_up HB.out b1 HB.out.size⟩
  have h40i : (st.length : Int) ≤ 40 := by omega
  have HN := Lib.hid (fun W => newZ p.six 30 W (by omega) (by omega))
  have HNR := Lib.hid (fun W => qnew_some p.six 30 W (by omega) (by omega))
  have c0 : ∀ W, Below (w.alloc (.cells p.row.toArray 32)).heap.size (w.alloc (.cells p.row.toArray 32)) W → W.cell? ⟨w.heap.size, 0, none⟩ = some (.bool p.six) := fun W hW => by
    rw [(HX.out.up hW).cell]; rfl
  have HC0 := Lib.hid c0
  clear c0

  go_enter Try.func4, Try.ntmps4
  obtain ⟨six, hsix⟩ : ∃ six, p.six = six := ⟨_, rfl⟩
  have HSX := Lib.hid hsix
  rw [hsix] at HN HNR HC0
  clear hsix
  go_wp2_with (go_at_call 5; refine (HA.out _).mono ?_; rintro e w1 ⟨rfl, b1⟩; refine Hid.out ?_)
  refine Lib.hid ?_
  generalize w.alloc (.cells p.row.toArray 32) = w0 at *
  have c1 := HC0.out w1 b1
  go_wp2_with (go_at_call 6; refine (HN.out _).mono ?_; rintro e w2 ⟨g, X, rfl, t2, b2, x2⟩; refine Hid.out ?_)
  refine Lib.hid ?_
  have B2 := below_up b1 b2 b1.size
  have c2 := HC0.out w2 B2
  clear c1
  go_wp2_with (go_at_call 7; refine (HNR.out _).mono ?_; rintro e w3 ⟨rfl, b3⟩; refine Hid.out ?_)
  refine Lib.hid ?_
  clear c2
  rw [show tV true six 30 (.slice none 0 0) = .agg (tR true six 30 (.slice none 0 0)).toArray from rfl]
  have hbA : Below w3.heap.size w3 (w3.alloc (.cells (tR true six 30 (.slice none 0 0)).toArray 28)) := (Below.refl _ _).alloc (Nat.le_refl _) _
  have hB3 : Below w0.heap.size w0 w3 := below_up B2 b3 B2.size
  have q2 : TabQ w2 X (.pointer (some ⟨g, 0, none⟩)) true six 30 [] 1 := .inl ⟨rfl, g, rfl, t2, by simp⟩
  have z4 : DuoZ w0 (fun _ => False) (.pointer (some ⟨g, 0, none⟩)) true six 30 [] 1 w3.heap.size [] none 0 0 (w3.alloc (.cells (tR true six 30 (.slice none 0 0)).toArray 28)) := by
    refine ⟨⟨X, (q2.up b3).up hbA, fun k hk => ?_, fun hx => ?_, fun k h => h.elim, fun h0 => absurd h0 (by simp)⟩, Bx.new w3 _ _, IsC.nil _, ?_, below_up hB3 hbA hB3.size⟩
    · have := x2 k hk
      have := b1.size
      omega
    · have := t2.blocks _ hx
      have := b3.size
      omega
    · exact hB3.size
  have HZ4 := Lib.hid z4
  clear t2 b2 x2 b3 b1 HNR HA z4 hbA hB3 B2 q2 HN
  go_wp2_with (first
    | (refine wpList_store_fresh rfl 28 (.tmp 9) (.tmp 31) rfl (tR true six 30 (.slice none 0 0)) _ w3.heap.size rfl rfl rfl t_info rfl (t_one _ _ _ _ rfl) ?_; refine Hid.out ?_))
  refine Lib.hid ?_
  generalize w3.alloc (.cells (tR true six 30 (.slice none 0 0)).toArray 28) = w4 at *
  generalize w3.heap.size = bT at *
  have HBB := Lib.hid (fun (W : World) (h : Below w0.heap.size w0 W) => below_up HB.out h HB.out.size)
  clear HB
  go_wp2
  go_loopw [10] (fun r wr => ∃ (i : Nat) (L : List (Pfx × Int)) (a : Option Addr) (n cap : Nat), i ≤ st.length ∧ r = .int .i64 (i : Int) ∧ L.length ≤ i ∧ DuoZ w0 (fun _ => False) (.pointer (some ⟨g, 0, none⟩)) true six 30 L (1 + 150 * i) bT L a n cap wr) (fun r _ => st.length - (intOf r).toNat)
  case atStart => exact ⟨0, [], none, 0, 0, by omega, rfl, Nat.le_refl _, HZ4.out⟩
  case round =>
    obtain ⟨i, L, a, n, cap, hi, rfl, hLi, hz⟩ := hrel
    clear HZ4
    by_cases hie : i = st.length
    · subst hie
      have hord : InOrder cmpP (okP six) L := by
        obtain ⟨X, h1, _⟩ := hz.tab
        exact h1.order
      have HPUT := Lib.hid (again_put hord p HP.out HSX.out v)
      have HQG := Lib.hid (fun (M : List (Pfx × Int)) (N : Nat) (W : World) (h : DuoZ w0 (fun _ => False) (.pointer (some ⟨g, 0, none⟩)) true six 30 M N bT L a n cap W) => show Calls Try.prog 11 #[.pointer (some ⟨g, 0, none⟩), p.val] W fun e w' => e = .returned (.tuple #[.int .i64 ((getT cmpP p M).getD 0), .bool (getT cmpP p M).isSome]) ∧ Below W.heap.size W w' by
        obtain ⟨X, h1, _⟩ := h.tab
        exact getQ p h1 HP.out)
      have HSA := Lib.hid (fun (N : Nat) (hN : N ≤ 900000) (W : World) (h : DuoZ w0 (fun _ => False) (.pointer (some ⟨g, 0, none⟩)) true six 30 L N bT L a n cap W) => show Calls Try.prog 16 #[.pointer (some ⟨g, 0, none⟩), tV true six 30 (.slice a n cap)] W fun e w' => e = .returned (.bool true) ∧ Below W.heap.size W w' by
        obtain ⟨X, h1, _⟩ := h.tab
        exact same_any W h1 hN h.lst)
      have HLE := Lib.hid (fun (N : Nat) (W : World) (h : DuoZ w0 (fun _ => False) (.pointer (some ⟨g, 0, none⟩)) true six 30 L N bT L a n cap W) => show Calls Try.prog 15 #[.pointer (some ⟨g, 0, none⟩)] W fun e w' => e = .returned (.int .i64 (L.length : Int)) ∧ w' = W by
        obtain ⟨X, h1, _⟩ := h.tab
        exact lenQ h1)
      have HRP := Lib.hid (fun (W : World) (h : Below w0.heap.size w0 W) => show W.rangeAt w.heap.size 0 p.row from rangeAll (HX.out.up h))
      have HCK := Lib.hid (fun W => qcheck_any p W HP.out)
      have R1 := Lib.hid (HRP.out wr hz.below)
      have HG1 := Lib.hid (HQG.out L _ wr hz)
      have HZ := Lib.hid hz
      have hN : 1 + 150 * st.length ≤ 890000 := by omega
      generalize 1 + 150 * st.length = N at *
      clear hz hord hLi
      obtain ⟨gs, hgs⟩ : ∃ gs, (getT cmpP p L).isSome = gs := ⟨_, rfl⟩
      have HNO : Hid (gs = false → getT cmpP p L = none) := Lib.hid (fun e => by cases hg : getT cmpP p L with | none => rfl | some y => rw [hg, e] at hgs; cases hgs)
      rw [hgs] at HG1
      clear hgs
      generalize (getT cmpP p L).getD 0 = gv at HG1
      go_wp2_with (first
        | (refine plV rfl p.val (exec_load_any _ (.tmp 4) rfl w.heap.size 0 p.row _ rfl R1.out Try.underlying32 rfl (pf_infoC HP.out)) ?_)
        | (go_at_call 11; refine HG1.out.mono ?_; rintro e w6 ⟨rfl, b6⟩; refine Hid.out ?_))
      refine Lib.hid ?_
      have HZ6 := Lib.hid (HZ.out.up b6)
      clear HZ b6 R1 HG1
      cases gs with
      | true =>
        have R6 := Lib.hid (rangeAll HZ6.out.ref)
        have HS6 := Lib.hid (HSA.out N (by omega) w6 HZ6.out)
        go_wp2_with (first
          | (refine plV rfl (tV true six 30 (.slice a n cap)) (exec_load_any _ (.tmp 9) rfl bT 0 (tR true six 30 (.slice a n cap)) _ rfl R6.out Try.underlying28 rfl t_info) ?_)
          | (go_at_call 16; refine HS6.out.mono ?_; rintro e w7 ⟨rfl, b7⟩; refine Hid.out ?_))
        refine Lib.hid ?_
        go_wp2
        go_ret
        exact ⟨rfl, HBB.out _ (HZ6.out.up b7).below⟩
      | false =>
        have hput := HPUT.out (HNO.out rfl)
        have HPT := Lib.hid (HZ6.out.put p v HP.out (by omega))
        have R6 := Lib.hid (HRP.out w6 HZ6.out.below)
        clear HZ6 HPUT HNO
        rcases hput with ⟨hck, hE, hL⟩ | ⟨h30, hE, hL⟩ | ⟨hE, hG2, hD1, hD2, hD3, hD4⟩
        · rw [hE, hL] at HPT
          rw [hck, if_neg (show ¬ (false = true) by simp)] at HCK
          clear hE hL hck
          go_wp2_with (first
            | (refine plV rfl p.val (exec_load_any _ (.tmp 4) rfl w.heap.size 0 p.row _ rfl R6.out Try.underlying32 rfl (pf_infoC HP.out)) ?_)
            | (go_at_call 8; refine HPT.out.mono ?_; rintro e w7 ⟨rfl, z7, _⟩; refine Hid.out ?_))
          refine Lib.hid ?_
          have RT := Lib.hid (rangeAll z7.ref)
          have HS7 := Lib.hid (HSA.out _ (by omega) w7 z7)
          have HZ7 := Lib.hid z7
          clear z7 HPT R6
          go_wp2_with (first
            | (refine plV rfl (tV true six 30 (.slice a n cap)) (exec_load_any _ (.tmp 9) rfl bT 0 (tR true six 30 (.slice a n cap)) _ rfl RT.out Try.underlying28 rfl t_info) ?_)
            | (go_at_call 16; refine HS7.out.mono ?_; rintro e w8 ⟨rfl, b8⟩; refine Hid.out ?_))
          refine Lib.hid ?_
          have HZ8 := Lib.hid (HZ7.out.up b8)
          clear HZ7 b8 HS7 RT
          have R8 := Lib.hid (HRP.out w8 HZ8.out.below)
          go_wp2_with (first
            | (refine plV rfl p.val (exec_load_any _ (.tmp 4) rfl w.heap.size 0 p.row _ rfl R8.out Try.underlying32 rfl (pf_infoC HP.out)) ?_)
            | (go_at_call 18; refine (HCK.out _).mono ?_; rintro e w9 ⟨rfl, b9⟩; refine Hid.out ?_))
          refine Lib.hid ?_
          go_wp2
          go_ret
          exact ⟨rfl, HBB.out _ (HZ8.out.up b9).below⟩
        · rw [hE, hL] at HPT
          clear hE hL
          go_wp2_with (first
            | (refine plV rfl p.val (exec_load_any _ (.tmp 4) rfl w.heap.size 0 p.row _ rfl R6.out Try.underlying32 rfl (pf_infoC HP.out)) ?_)
            | (go_at_call 8; refine HPT.out.mono ?_; rintro e w7 ⟨rfl, z7, _⟩; refine Hid.out ?_))
          refine Lib.hid ?_
          have RT := Lib.hid (rangeAll z7.ref)
          have HS7 := Lib.hid (HSA.out _ (by omega) w7 z7)
          have HZ7 := Lib.hid z7
          clear z7 HPT R6
          go_wp2_with (first
            | (refine plV rfl (tV true six 30 (.slice a n cap)) (exec_load_any _ (.tmp 9) rfl bT 0 (tR true six 30 (.slice a n cap)) _ rfl RT.out Try.underlying28 rfl t_info) ?_)
            | (go_at_call 16; refine HS7.out.mono ?_; rintro e w8 ⟨rfl, b8⟩; refine Hid.out ?_))
          refine Lib.hid ?_
          have HZ8 := Lib.hid (HZ7.out.up b8)
          clear HZ7 b8 HS7 RT
          have HL8 := Lib.hid (HLE.out _ w8 HZ8.out)
          rw [h30] at HL8
          go_wp2_with (first
            | (go_at_call 15; refine HL8.out.mono ?_; rintro e w9 ⟨rfl, rfl⟩; refine Hid.out ?_))
          refine Lib.hid ?_
          go_wp2
          go_ret
          exact ⟨rfl, HBB.out _ HZ8.out.below⟩
        · rw [hE] at HPT
          have HG2 := Lib.hid hG2
          have HD1 := Lib.hid hD1
          have HD2 := Lib.hid hD2
          have HD3 := Lib.hid hD3
          have HD4 := Lib.hid hD4
          clear hE hG2 hD1 hD2 hD3 hD4
          generalize rputL true six 30 L p v = L2 at *
          go_wp2_with (first
            | (refine plV rfl p.val (exec_load_any _ (.tmp 4) rfl w.heap.size 0 p.row _ rfl R6.out Try.underlying32 rfl (pf_infoC HP.out)) ?_)
            | (go_at_call 8; refine HPT.out.mono ?_; rintro e w7 ⟨rfl, z7, _⟩; refine Hid.out ?_))
          refine Lib.hid ?_
          have R7 := Lib.hid (HRP.out w7 z7.below)
          have hg7 := HQG.out L2 _ w7 z7
          rw [HG2.out] at hg7
          have HG7 := Lib.hid hg7
          have HZ7 := Lib.hid z7
          clear z7 hg7 HPT R6
          go_wp2_with (first
            | (refine plV rfl p.val (exec_load_any _ (.tmp 4) rfl w.heap.size 0 p.row _ rfl R7.out Try.underlying32 rfl (pf_infoC HP.out)) ?_)
            | (go_at_call 11; refine HG7.out.mono ?_; rintro e w8 ⟨rfl, b8⟩; refine Hid.out ?_))
          refine Lib.hid ?_
          have z8 := HZ7.out.up b8
          have R8 := Lib.hid (HRP.out w8 z8.below)
          have hd8 := z8.del p HP.out (by omega)
          rw [HD1.out, HD2.out] at hd8
          have HDL8 := Lib.hid hd8
          clear z8 hd8 HZ7 b8 HG7 R7
          go_wp2_with (first
            | (refine plV rfl p.val (exec_load_any _ (.tmp 4) rfl w.heap.size 0 p.row _ rfl R8.out Try.underlying32 rfl (pf_infoC HP.out)) ?_)
            | (go_at_call 9; refine HDL8.out.mono ?_; rintro e w9 ⟨rfl, z9, _⟩; refine Hid.out ?_))
          refine Lib.hid ?_
          have R9 := Lib.hid (HRP.out w9 z9.below)
          have hd9 := z9.del p HP.out (by omega)
          rw [HD3.out, HD4.out] at hd9
          have HDL9 := Lib.hid hd9
          clear z9 hd9 HDL8 R8
          go_wp2_with (first
            | (refine plV rfl p.val (exec_load_any _ (.tmp 4) rfl w.heap.size 0 p.row _ rfl R9.out Try.underlying32 rfl (pf_infoC HP.out)) ?_)
            | (go_at_call 9; refine HDL9.out.mono ?_; rintro e w10 ⟨rfl, z10, _⟩; refine Hid.out ?_))
          refine Lib.hid ?_
          have RT := Lib.hid (rangeAll z10.ref)
          have HS10 := Lib.hid (HSA.out _ (by omega) w10 z10)
          have HZ10 := Lib.hid z10
          clear z10 HDL9 R9
          go_wp2_with (first
            | (refine plV rfl (tV true six 30 (.slice a n cap)) (exec_load_any _ (.tmp 9) rfl bT 0 (tR true six 30 (.slice a n cap)) _ rfl RT.out Try.underlying28 rfl t_info) ?_)
            | (go_at_call 16; refine HS10.out.mono ?_; rintro e w11 ⟨rfl, b11⟩; refine Hid.out ?_))
          refine Lib.hid ?_
          go_wp2
          go_ret
          exact ⟨rfl, HBB.out _ (HZ10.out.up b11).below⟩
    · have hlt : i < st.length := by omega
      obtain ⟨s, hs⟩ : ∃ s, st[i]? = some s := ⟨_, List.getElem?_eq_getElem hlt⟩
      have h16 := HOK.out s (List.mem_of_getElem? hs)
      obtain ⟨b, k, rfl, hbw, _, q1, q2⟩ := step_at HSC.out i s hs h16
      have hii : (i : Int) < (st.length : Int) := by omega
      have hHS : ∀ W, Below w0.heap.size w0 W → HeldS b (k + i * 20) s.p.row s.v W := fun W hW => ⟨fun j v hv => ((HBB.out W hW).cell (p := ⟨b, k + i * 20 + 1 + j, none⟩) hbw).trans (q1 j v hv), ((HBB.out W hW).cell (p := ⟨b, k + i * 20 + 19, none⟩) hbw).trans q2⟩
      have hbw0 : b < w0.heap.size := by have := HXS.out; omega
      have HPU := Lib.hid (fun W (h : DuoZ w0 (fun _ => False) (.pointer (some ⟨g, 0, none⟩)) true six 30 L (1 + 150 * i) bT L a n cap W) => h.put s.p s.v h16 (by omega))
      have HQP := Lib.hid (fun W (hl : IsC itF 19 W (.slice a n cap) L) => qput_any true six 30 a n cap L s.p s.v W hl h16 (by omega))
      have hln := rputL_len true six 30 L s.p s.v
      have HHS := Lib.hid hHS
      have H16 := Lib.hid h16
      have HZ := Lib.hid hz
      clear hHS h16 q1 q2 hz hs
      generalize rputE true six 30 L s.p = E at *
      generalize rputL true six 30 L s.p s.v = L1 at *
      go_wp2
      refine wp_region_noPanic ?_
      refine wp_region_held_drew (S := HeldS b (k + i * 20) s.p.row s.v) (by kernel_rfl) (HHS.out _ HZ.out.below.drew) (fun hHeld => ?_)
      have hz1 := HZ.out.up (Below.refl _ _).drew
      clear HZ
      generalize wr.drew = W1 at *
      refine held_take (v := ?v326) 0 rfl (by kernel_rfl) (by kernel_rfl) (by kernel_rfl) (fun _ _ _ h => h) (by rfl) ?y326 (by assumption) ?_
      case y326 => (intro w hSw; unfold HeldS at hSw; go_simp; (try with_reducible rfl); (try omega))
      simp only [List.setIfInBounds_toArray, List.set_cons_zero, List.set_cons_succ]
      refine held_take (v := ?v329) 1 rfl (by kernel_rfl) (by kernel_rfl) (by kernel_rfl) (fun _ _ _ h => h) (by rfl) ?y329 (by assumption) ?_
      case y329 => (intro w hSw; unfold HeldS at hSw; go_simp; (try with_reducible rfl); (try omega))
      simp only [List.setIfInBounds_toArray, List.set_cons_zero, List.set_cons_succ]
      refine held_take (v := ?v332) 2 rfl (by kernel_rfl) (by kernel_rfl) (by kernel_rfl) (fun _ _ _ h => h) (by rfl) ?y332 (by assumption) ?_
      case y332 => (intro w hSw; unfold HeldS at hSw; go_simp; (try with_reducible rfl); (try omega))
      simp only [List.setIfInBounds_toArray, List.set_cons_zero, List.set_cons_succ]
      refine held_take (v := ?v335) 3 rfl (by kernel_rfl) (by kernel_rfl) (by kernel_rfl) (fun _ _ _ h => h) (by rfl) ?y335 (by assumption) ?_
      case y335 => (intro w hSw; unfold HeldS at hSw; go_simp; (try with_reducible rfl); (try omega))
      simp only [List.setIfInBounds_toArray, List.set_cons_zero, List.set_cons_succ]
      refine held_take (v := ?v338) 4 rfl (by kernel_rfl) (by kernel_rfl) (by kernel_rfl) (fun _ _ _ h => h) (by rfl) ?y338 (by assumption) ?_
      case y338 => (intro w hSw; unfold HeldS at hSw; go_simp; (try with_reducible rfl); (try omega))
      simp only [List.setIfInBounds_toArray, List.set_cons_zero, List.set_cons_succ]
      refine held_take (v := s.p.val) 5 rfl (by kernel_rfl) (by kernel_rfl) (by kernel_rfl) (fun _ _ _ h => h) (by rfl) (fun W hSw => exec_load_any _ (.tmp 42) rfl b (k + i * 20 + 1) s.p.row _ rfl hSw.1 Try.underlying32 rfl (pf_infoC H16.out)) (by assumption) ?_
      simp only [List.setIfInBounds_toArray, List.set_cons_zero, List.set_cons_succ]
      refine held_take (v := ?v343) 6 rfl (by kernel_rfl) (by kernel_rfl) (by kernel_rfl) (fun _ _ _ h => h) (by rfl) ?y343 (by assumption) ?_
      case y343 => (intro w hSw; unfold HeldS at hSw; go_simp; (try with_reducible rfl); (try omega))
      simp only [List.setIfInBounds_toArray, List.set_cons_zero, List.set_cons_succ]
      refine held_take (v := ?v346) 7 rfl (by kernel_rfl) (by kernel_rfl) (by kernel_rfl) (fun _ _ _ h => h) (by rfl) ?y346 (by assumption) ?_
      case y346 => (intro w hSw; unfold HeldS at hSw; go_simp; (try with_reducible rfl); (try omega))
      simp only [List.setIfInBounds_toArray, List.set_cons_zero, List.set_cons_succ]
      refine held_take (v := ?v349) 8 rfl (by kernel_rfl) (by kernel_rfl) (by kernel_rfl) (fun _ _ _ h => h) (by rfl) ?y349 (by assumption) ?_
      case y349 => (intro w hSw; unfold HeldS at hSw; go_simp; (try with_reducible rfl); (try omega))
      simp only [List.setIfInBounds_toArray, List.set_cons_zero, List.set_cons_succ]
      refine held_take (v := ?v352) 9 rfl (by kernel_rfl) (by kernel_rfl) (by kernel_rfl) (fun _ _ _ h => h) (by rfl) ?y352 (by assumption) ?_
      case y352 => (intro w hSw; unfold HeldS at hSw; go_simp; (try with_reducible rfl); (try omega))
      simp only [List.setIfInBounds_toArray, List.set_cons_zero, List.set_cons_succ]
      refine held_take (v := ?v355) 10 rfl (by kernel_rfl) (by kernel_rfl) (by kernel_rfl) (fun _ _ _ h => h) (by rfl) ?y355 (by assumption) ?_
      case y355 => (intro w hSw; unfold HeldS at hSw; go_simp; (try with_reducible rfl); (try omega))
      simp only [List.setIfInBounds_toArray, List.set_cons_zero, List.set_cons_succ]
      refine held_one 11 rfl (by kernel_rfl) (by rfl) (fun K hK => ?_)
      go_simp
      refine (HPU.out _ hz1).mono ?_
      rintro e w3 ⟨rfl, z3, _⟩
      refine hK.out _ _ (HHS.out _ z3.below) (fun _ => ?_)
      clear hK K hHeld hz1 HPU
      refine wpAnyH_done (by kernel_rfl) ?_ _
      refine NoPanic.normal ?_
      have HZ3 := Lib.hid z3
      clear z3
      go_wp2
      have hz5 := HZ3.out.up (Below.refl _ _).drew
      have hH5 : HeldG bT (tR true six 30 (.slice a n cap)) b (k + i * 20) s.p.row s.v w3.drew := ⟨rangeAll hz5.ref, (HHS.out _ hz5.below).1, (HHS.out _ hz5.below).2⟩
      have hT5 := hz5.ref.lt
      have hb5 : b < w3.drew.heap.size := Nat.lt_of_lt_of_le hbw0 hz5.below.size
      have HZ5 := Lib.hid hz5
      have HT5 := Lib.hid hT5
      have HB5 := Lib.hid hb5
      clear hz5 HZ3 hT5 hb5
      refine wp_region_noPanic ?_
      refine wp_region_held_drew (S := HeldG bT (tR true six 30 (.slice a n cap)) b (k + i * 20) s.p.row s.v) (by kernel_rfl) hH5 (fun hHeld => ?_)
      clear hH5
      generalize w3.drew = W5 at *
      refine held_take (v := tV true six 30 (.slice a n cap)) 0 rfl (by kernel_rfl) (by kernel_rfl) (by kernel_rfl) (fun _ _ _ h => h) (by rfl) (fun W hSw => exec_load_any _ (.tmp 9) rfl bT 0 (tR true six 30 (.slice a n cap)) _ rfl hSw.1 Try.underlying28 rfl t_info) (by assumption) ?_
      simp only [List.setIfInBounds_toArray, List.set_cons_zero, List.set_cons_succ]
      refine held_take (v := ?v383) 1 rfl (by kernel_rfl) (by kernel_rfl) (by kernel_rfl) (fun _ _ _ h => h) (by rfl) ?y383 (by assumption) ?_
      case y383 => (intro w hSw; unfold HeldG at hSw; go_simp; (try with_reducible rfl); (try omega))
      simp only [List.setIfInBounds_toArray, List.set_cons_zero, List.set_cons_succ]
      refine held_take (v := ?v386) 2 rfl (by kernel_rfl) (by kernel_rfl) (by kernel_rfl) (fun _ _ _ h => h) (by rfl) ?y386 (by assumption) ?_
      case y386 => (intro w hSw; unfold HeldG at hSw; go_simp; (try with_reducible rfl); (try omega))
      simp only [List.setIfInBounds_toArray, List.set_cons_zero, List.set_cons_succ]
      refine held_take (v := ?v389) 3 rfl (by kernel_rfl) (by kernel_rfl) (by kernel_rfl) (fun _ _ _ h => h) (by rfl) ?y389 (by assumption) ?_
      case y389 => (intro w hSw; unfold HeldG at hSw; go_simp; (try with_reducible rfl); (try omega))
      simp only [List.setIfInBounds_toArray, List.set_cons_zero, List.set_cons_succ]
      refine held_take (v := ?v392) 4 rfl (by kernel_rfl) (by kernel_rfl) (by kernel_rfl) (fun _ _ _ h => h) (by rfl) ?y392 (by assumption) ?_
      case y392 => (intro w hSw; unfold HeldG at hSw; go_simp; (try with_reducible rfl); (try omega))
      simp only [List.setIfInBounds_toArray, List.set_cons_zero, List.set_cons_succ]
      refine held_take (v := s.p.val) 5 rfl (by kernel_rfl) (by kernel_rfl) (by kernel_rfl) (fun _ _ _ h => h) (by rfl) (fun W hSw => exec_load_any _ (.tmp 55) rfl b (k + i * 20 + 1) s.p.row _ rfl hSw.2.1 Try.underlying32 rfl (pf_infoC H16.out)) (by assumption) ?_
      simp only [List.setIfInBounds_toArray, List.set_cons_zero, List.set_cons_succ]
      refine held_take (v := ?v397) 6 rfl (by kernel_rfl) (by kernel_rfl) (by kernel_rfl) (fun _ _ _ h => h) (by rfl) ?y397 (by assumption) ?_
      case y397 => (intro w hSw; unfold HeldG at hSw; go_simp; (try with_reducible rfl); (try omega))
      simp only [List.setIfInBounds_toArray, List.set_cons_zero, List.set_cons_succ]
      refine held_take (v := ?v400) 7 rfl (by kernel_rfl) (by kernel_rfl) (by kernel_rfl) (fun _ _ _ h => h) (by rfl) ?y400 (by assumption) ?_
      case y400 => (intro w hSw; unfold HeldG at hSw; go_simp; (try with_reducible rfl); (try omega))
      simp only [List.setIfInBounds_toArray, List.set_cons_zero, List.set_cons_succ]
      refine held_take (v := ?v403) 8 rfl (by kernel_rfl) (by kernel_rfl) (by kernel_rfl) (fun _ _ _ h => h) (by rfl) ?y403 (by assumption) ?_
      case y403 => (intro w hSw; unfold HeldG at hSw; go_simp; (try with_reducible rfl); (try omega))
      simp only [List.setIfInBounds_toArray, List.set_cons_zero, List.set_cons_succ]
      refine held_take (v := ?v406) 9 rfl (by kernel_rfl) (by kernel_rfl) (by kernel_rfl) (fun _ _ _ h => h) (by rfl) ?y406 (by assumption) ?_
      case y406 => (intro w hSw; unfold HeldG at hSw; go_simp; (try with_reducible rfl); (try omega))
      simp only [List.setIfInBounds_toArray, List.set_cons_zero, List.set_cons_succ]
      refine held_take (v := ?v409) 10 rfl (by kernel_rfl) (by kernel_rfl) (by kernel_rfl) (fun _ _ _ h => h) (by rfl) ?y409 (by assumption) ?_
      case y409 => (intro w hSw; unfold HeldG at hSw; go_simp; (try with_reducible rfl); (try omega))
      simp only [List.setIfInBounds_toArray, List.set_cons_zero, List.set_cons_succ]
      refine wpAnyH_ready (rs := [11, 15]) (by kernel_rfl) (by simp) (AllReadyH.cons rfl (fun K hK => ?_) (AllReadyH.cons rfl (fun K hK => ?_) AllReadyH.nil))
      · rw [if_pos (by rfl)]
        go_simp
        refine (HQP.out _ HZ5.out.lst).mono ?_
        rintro e w6 ⟨⟨a1, n1, cap1, rfl, l6, d6⟩, b6⟩
        have hH6 := hHeld.up HT5.out HB5.out b6
        refine hK.out _ _ hH6 (fun _ => ?_)
        clear hK K
        refine held_take (v := ?v420) 12 rfl (by kernel_rfl) (by kernel_rfl) (by kernel_rfl) (fun _ _ _ h => h) (by rfl) ?y420 (by assumption) ?_
        case y420 => (intro w hSw; unfold HeldG at hSw; go_simp; (try with_reducible rfl); (try omega))
        simp only [List.setIfInBounds_toArray, List.set_cons_zero, List.set_cons_succ]
        refine held_take (v := ?v423) 13 rfl (by kernel_rfl) (by kernel_rfl) (by kernel_rfl) (fun _ _ _ h => h) (by rfl) ?y423 (by assumption) ?_
        case y423 => (intro w hSw; unfold HeldG at hSw; go_simp; (try with_reducible rfl); (try omega))
        simp only [List.setIfInBounds_toArray, List.set_cons_zero, List.set_cons_succ]
        refine held_take (v := ?v426) 14 rfl (by kernel_rfl) (by kernel_rfl) (by kernel_rfl) (fun _ _ _ h => h) (by rfl) ?y426 (by assumption) ?_
        case y426 => (intro w hSw; unfold HeldG at hSw; go_simp; (try with_reducible rfl); (try omega))
        simp only [List.setIfInBounds_toArray, List.set_cons_zero, List.set_cons_succ]
        refine held_one 15 rfl (by kernel_rfl) (by rfl) (fun K hK => ?_)
        go_simp
        have hH7 := hH6.up (Nat.lt_of_lt_of_le HT5.out b6.size) (Nat.lt_of_lt_of_le HB5.out b6.size) ((Below.refl w6.heap.size w6).alloc (Nat.le_refl _) (.cells (tR false false 0 (.slice none 0 0)).toArray 28))
        refine hK.out _ _ hH7 (fun _ => ?_)
        clear hK K
        refine held_none 16 rfl (by kernel_rfl) (by rfl) (fun K hK => ?_)
        refine wp_store_bx _ (.tmp 11) (.tmp 63) rfl w6.heap.size (tR true six 30 (.slice a1 n1 cap1)) (tR false false 0 (.slice none 0 0)) rfl rfl (Bx.new w6 _ _) t_info rfl (t_one _ _ _ _ rfl) ?_
        have hNX : NextZ true six 30 W5 a L w6.heap.size a1 n1 cap1 L1 ((w6.alloc (.cells #[.bool false, .bool false, .int .i64 0, .slice none 0 0] 28)).setRow w6.heap.size (tR true six 30 (.slice a1 n1 cap1)).toArray) := nextA l6 d6 b6 _ rfl
        have hHX := hHeld.up HT5.out HB5.out hNX.below
        have HNX := Lib.hid hNX
        clear hNX
        refine hK.out _ _ hHX (fun _ => ?_)
        clear hK K
        simp only [Act.put]
        refine held_take (v := ?v443) 17 rfl (by kernel_rfl) (by kernel_rfl) (by kernel_rfl) (fun _ _ _ h => h) (by rfl) ?y443 (by assumption) ?_
        case y443 => (intro w hSw; unfold HeldG at hSw; go_simp; (try with_reducible rfl); (try omega))
        simp only [List.setIfInBounds_toArray, List.set_cons_zero, List.set_cons_succ]
        clear hHeld hH6 hH7 hHX l6 d6 b6 
        generalize w6.heap.size = bN at *
        generalize ((w6.alloc (.cells #[.bool false, .bool false, .int .i64 0, .slice none 0 0] 28)).setRow bN (tR true six 30 (.slice a1 n1 cap1)).toArray) = W7 at *
        refine wpAnyH_done (by kernel_rfl) ?_ _
        refine NoPanic.normal ?_
        have RN := Lib.hid (rangeAll HNX.out.box)
        have HRT := Lib.hid (HZ5.out.ref.up HNX.out.below)
        have HZ8 := Lib.hid (HZ5.out.settle HNX.out.below HNX.out.lst HNX.out.src).1
        clear HZ5 HNX HQP
        go_wp2_with (first
          | (refine plV rfl (tV true six 30 (.slice a1 n1 cap1)) (exec_load_any _ (.tmp 11) rfl bN 0 (tR true six 30 (.slice a1 n1 cap1)) _ rfl RN.out Try.underlying28 rfl t_info) ?_)
          | (refine wpList_store_bx rfl 28 (.tmp 9) (.tmp 65) rfl bT (tR true six 30 (.slice a1 n1 cap1)) (tR true six 30 (.slice a n cap)) rfl rfl HRT.out t_info rfl (t_one _ _ _ _ rfl) ?_; refine Hid.out ?_))
        refine Lib.hid ?_
        generalize W7.setRow bT (tR true six 30 (.slice a1 n1 cap1)).toArray = W8 at *
        go_wp2
        go_roundw
        case rel => exact ⟨i + 1, L1, a1, n1, cap1, by omega, by go_num, by omega, by rw [show 1 + 150 * (i + 1) = 1 + 150 * i + 150 by omega]; exact HZ8.out⟩
        case measure => simp [intOf]; omega
      · rw [if_pos (by rfl)]
        go_simp
        have hH6 := hHeld.up HT5.out HB5.out ((Below.refl W5.heap.size W5).alloc (Nat.le_refl _) (.cells (tR false false 0 (.slice none 0 0)).toArray 28))
        refine hK.out _ _ hH6 (fun _ => ?_)
        clear hK K
        refine held_one 11 rfl (by kernel_rfl) (by rfl) (fun K hK => ?_)
        go_simp
        refine (HQP.out _ (HZ5.out.lst.below ((Below.refl W5.heap.size W5).alloc (Nat.le_refl _) _))).mono ?_
        rintro e w6 ⟨⟨a1, n1, cap1, rfl, l6, d6⟩, b6⟩
        have hNN := nextB (is := true) (six := six) (room := 30) HZ5.out.lst l6 d6 b6 rfl
        have hx6 := hNN.1
        have hNX := hNN.2
        clear hNN
        have hH7 : HeldG bT (tR true six 30 (.slice a n cap)) b (k + i * 20) s.p.row s.v w6 := hH6.up (by have := HT5.out; simp; omega) (by have := HB5.out; simp; omega) b6
        refine hK.out _ _ hH7 (fun _ => ?_)
        clear hK K
        refine held_take (v := ?v480) 12 rfl (by kernel_rfl) (by kernel_rfl) (by kernel_rfl) (fun _ _ _ h => h) (by rfl) ?y480 (by assumption) ?_
        case y480 => (intro w hSw; unfold HeldG at hSw; go_simp; (try with_reducible rfl); (try omega))
        simp only [List.setIfInBounds_toArray, List.set_cons_zero, List.set_cons_succ]
        refine held_take (v := ?v483) 13 rfl (by kernel_rfl) (by kernel_rfl) (by kernel_rfl) (fun _ _ _ h => h) (by rfl) ?y483 (by assumption) ?_
        case y483 => (intro w hSw; unfold HeldG at hSw; go_simp; (try with_reducible rfl); (try omega))
        simp only [List.setIfInBounds_toArray, List.set_cons_zero, List.set_cons_succ]
        refine held_take (v := ?v486) 14 rfl (by kernel_rfl) (by kernel_rfl) (by kernel_rfl) (fun _ _ _ h => h) (by rfl) ?y486 (by assumption) ?_
        case y486 => (intro w hSw; unfold HeldG at hSw; go_simp; (try with_reducible rfl); (try omega))
        simp only [List.setIfInBounds_toArray, List.set_cons_zero, List.set_cons_succ]
        refine held_none 16 rfl (by kernel_rfl) (by rfl) (fun K hK => ?_)
        refine wp_store_bx _ (.tmp 11) (.tmp 63) rfl W5.heap.size (tR true six 30 (.slice a1 n1 cap1)) (tR false false 0 (.slice none 0 0)) rfl rfl hx6 t_info rfl (t_one _ _ _ _ rfl) ?_
        have hHX := hHeld.up HT5.out HB5.out hNX.below
        have HNX := Lib.hid hNX
        clear hNX
        refine hK.out _ _ hHX (fun _ => ?_)
        clear hK K
        simp only [Act.put]
        refine held_take (v := ?v497) 17 rfl (by kernel_rfl) (by kernel_rfl) (by kernel_rfl) (fun _ _ _ h => h) (by rfl) ?y497 (by assumption) ?_
        case y497 => (intro w hSw; unfold HeldG at hSw; go_simp; (try with_reducible rfl); (try omega))
        simp only [List.setIfInBounds_toArray, List.set_cons_zero, List.set_cons_succ]
        clear hHeld hH6 hH7 hHX l6 d6 b6 hx6
        generalize W5.heap.size = bN at *
        generalize w6.setRow bN (tR true six 30 (.slice a1 n1 cap1)).toArray = W7 at *
        refine wpAnyH_done (by kernel_rfl) ?_ _
        refine NoPanic.normal ?_
        have RN := Lib.hid (rangeAll HNX.out.box)
        have HRT := Lib.hid (HZ5.out.ref.up HNX.out.below)
        have HZ8 := Lib.hid (HZ5.out.settle HNX.out.below HNX.out.lst HNX.out.src).1
        clear HZ5 HNX HQP
        go_wp2_with (first
          | (refine plV rfl (tV true six 30 (.slice a1 n1 cap1)) (exec_load_any _ (.tmp 11) rfl bN 0 (tR true six 30 (.slice a1 n1 cap1)) _ rfl RN.out Try.underlying28 rfl t_info) ?_)
          | (refine wpList_store_bx rfl 28 (.tmp 9) (.tmp 65) rfl bT (tR true six 30 (.slice a1 n1 cap1)) (tR true six 30 (.slice a n cap)) rfl rfl HRT.out t_info rfl (t_one _ _ _ _ rfl) ?_; refine Hid.out ?_))
        refine Lib.hid ?_
        generalize W7.setRow bT (tR true six 30 (.slice a1 n1 cap1)).toArray = W8 at *
        go_wp2
        go_roundw
        case rel => exact ⟨i + 1, L1, a1, n1, cap1, by omega, by go_num, by omega, by rw [show 1 + 150 * (i + 1) = 1 + 150 * i + 150 by omega]; exact HZ8.out⟩
        case measure => simp [intOf]; omega
end Go.Proofs.Ytecefdocemkliaa

/- A table of both kinds (package fib): All, Uses, Above, Below. -/
import Derived.Test.YtgimcapcnidjjaaFib3
namespace Go.Proofs.Ytgimcapcnidjjaa
open Go Go.RowKit

theorem hmfF : ∀ (fn : Fn) (first cap : Array Value) (w : World), (Instr.makeFunc fn first cap).run Try.prog w = .ok (.func fn first cap) w := fun _ _ _ _ => rfl
theorem TabQ.len {W : World} {X : Nat → Prop} {pt : Value} {is six : Bool} {room : Int} {L : List (Pfx × Int)} {N : Nat} (h : TabQ W X pt is six room L N) : L.length ≤ N := by
  rcases h with ⟨_, g, _, h, _⟩ | ⟨_, _, rfl, _⟩
  · exact h.low
  · exact Nat.zero_le _
theorem FibQ.len {W : World} {X : Nat → Prop} {pt : Value} {is : Bool} {room : Int} {L : Bool → List (Pfx × Int)} {N : Nat} (h : FibQ W X pt is room L N) (s : Bool) : (L s).length ≤ N := by
  obtain ⟨pp, Y, h⟩ := h
  exact (h.tab s).len
theorem kind_len (L : Bool → List (Pfx × Int)) : (kindL L).length = (L false).length + (L true).length := List.length_append
theorem kind_mem {L : Bool → List (Pfx × Int)} {x : Pfx × Int} (h : x ∈ kindL L) : ∃ s, x ∈ L s := by
  rcases List.mem_append.1 h with h | h
  · exact ⟨false, h⟩
  · exact ⟨true, h⟩
theorem FibQ.addr {W : World} {X : Nat → Prop} {pt : Value} {is : Bool} {room : Int} {L : Bool → List (Pfx × Int)} {N : Nat} (h : FibQ W X pt is room L N) : ∀ x ∈ kindL L, (itF x).length = 19 := fun x hx => by
  obtain ⟨s, hs⟩ := kind_mem hx
  exact it_len ((h.order s).2 x hs).2.1 _
theorem own_isC {w : World} {base : Nat} {v : Value} {M : List (Pfx × Int)} (h16 : ∀ x ∈ M, (itF x).length = 19) (h : w.ownsRow base 44 19 v M.length (M.flatMap itF)) : ∃ va vc, v = .slice va M.length vc ∧ IsC itF 19 w (.slice va M.length vc) M := by
  obtain ⟨va, vc, rfl⟩ := own_slice9 h
  exact ⟨va, vc, rfl, IsC.of_owned h16 h⟩
set_option maxRecDepth 100000 in
set_option maxHeartbeats 4000000 in
theorem fall {w : World} {X : Nat → Prop} {pt : Value} {is : Bool} {room : Int} {L : Bool → List (Pfx × Int)} {N : Nat} (h : FibQ w X pt is room L N) (hN : N ≤ 400000) :
    Calls Try.prog 20 #[pt] w fun e w' => ∃ va vc, e = .returned (.slice va (kindL L).length vc) ∧ IsC itF 19 w' (.slice va (kindL L).length vc) (kindL L) ∧ Below w.heap.size w w' := by
  have H16 := Lib.hid h.addr
  obtain ⟨pp, Y, h⟩ := h
  have HB := Lib.hid (both_any w pt (pp false) (pp true) h.box)
  have HG := Lib.hid (fun W (hW : Below w.heap.size w W) => gather_any (six := fun s => s && is) W (fun s => (h.tab s).up hW) hN (fun s => Nat.le_trans (h.tab s).len hN))
  clear h
  generalize pp false = p4 at *
  generalize pp true = p6 at *
  go_enter Try.func20, Try.ntmps20
  go_wp2_with (go_at_call 43; refine HB.out.mono ?_; rintro e w1 ⟨rfl, b1⟩; refine Hid.out ?_)
  refine Lib.hid ?_
  have HG1 := Lib.hid (HG.out _ b1)
  have HB1 := Lib.hid b1
  clear b1 HG HB
  go_wp2_with (go_at_call 42; refine HG1.out.mono ?_; rintro e w2 ⟨v, rfl, o2, b2⟩; refine Hid.out ?_)
  refine Lib.hid ?_
  have HO := Lib.hid (own_isC H16.out o2)
  have HB2 := Lib.hid (below_up HB1.out b2 HB1.out.size)
  clear o2 b2 HG1 HB1
  go_wp2
  go_ret
  obtain ⟨va, vc, rfl, hc⟩ := HO.out
  exact ⟨va, vc, rfl, hc, HB2.out⟩
set_option maxRecDepth 100000 in
set_option maxHeartbeats 1000000 in
theorem usesC (x : Pfx × Int) (v : Int) (B : Nat) (W : World) (hx : (itF x).length = 19) (hB : Bx W B 3 [.int .i64 v]) :
    Calls Try.prog 41 #[itV x.1 x.2, .pointer (some ⟨B, 0, none⟩)] W fun e W' => e = .returned (.bool (decide (x.2 = v))) ∧ Below W.heap.size W W' := by
  have hb : Below W.heap.size W (W.alloc (.cells (itR x.1 x.2).toArray 44)) := (Below.refl _ _).alloc (Nat.le_refl _) _
  have c18 : (W.alloc (.cells (itR x.1 x.2).toArray 44)).cell? ⟨W.heap.size, 18, none⟩ = some (.int .i64 x.2) := by
    rw [(Bx.new W 44 (itR x.1 x.2)).cell]
    exact it_v (itF_addr hx)
  have cB : (W.alloc (.cells (itR x.1 x.2).toArray 44)).cell? ⟨B, 0, none⟩ = some (.int .i64 v) := by
    rw [(hB.up hb).cell]
    rfl
  have HB := Lib.hid hb
  rw [show itV x.1 x.2 = .agg (itR x.1 x.2).toArray from rfl]
  clear hx hB hb
  go_enter Try.func41, Try.ntmps41
  go_wp2
  go_ret
  exact ⟨rfl, HB.out⟩
set_option maxRecDepth 100000 in
set_option maxHeartbeats 4000000 in
theorem fuses (v : Int) {w : World} {X : Nat → Prop} {pt : Value} {is : Bool} {room : Int} {L : Bool → List (Pfx × Int)} {N : Nat} (h : FibQ w X pt is room L N) (hN : N ≤ 400000) :
    Calls Try.prog 17 #[pt, .int .i64 v] w fun e w' => e = .returned (.int .i64 ((useL v (kindL L)).length : Int)) ∧ Below w.heap.size w w' := by
  have hb : Below w.heap.size w (w.alloc (.cells #[.int .i64 v] 3)) := (Below.refl _ _).alloc (Nat.le_refl _) _
  have HX := Lib.hid (Bx.new w 3 [.int .i64 v])
  have H16 := Lib.hid h.addr
  have HL := Lib.hid (show (kindL L).length ≤ 800000 by have := h.len false; have := h.len true; rw [kind_len]; omega)
  have HA := Lib.hid (fall (h.up hb) hN)
  have HB := Lib.hid hb
  have hmf := hmfF
  unfold useL
  clear h hb hN
  generalize kindL L = M at *
  go_enter Try.func17, Try.ntmps17
  go_wp2_with (go_at_call 20; refine HA.out.mono ?_; rintro e w1 ⟨va, vc, rfl, l1, b1⟩; refine Hid.out ?_)
  refine Lib.hid ?_
  have HK := Lib.hid (keepU (fun x => decide (x.2 = v)) M va vc w.heap.size w1 l1 (by have := HL.out; omega) (fun x hx W hW => usesC x v w.heap.size W (H16.out x hx) ((HX.out.up b1).up hW)))
  have HB1 := Lib.hid (below_up HB.out b1 HB.out.size)
  clear l1 b1 HA HX HB
  go_wp2_with (go_at_call 40; refine HK.out.mono ?_; rintro e w2 ⟨u, rfl, o2, b2⟩; refine Hid.out ?_)
  refine Lib.hid ?_
  obtain ⟨ua, uc, rfl⟩ := own_slice9 o2
  have HB2 := Lib.hid (below_up HB1.out b2 HB1.out.size)
  clear o2 b2 HK HB1
  go_wp2
  go_ret
  exact ⟨rfl, HB2.out⟩
/-! Of one kind. -/
set_option maxRecDepth 100000 in
set_option maxHeartbeats 4000000 in
theorem aboveC (q p : Pfx) (B : Nat) (W : World) (hq : q.addr.length = 16) (hp : p.addr.length = 16) (hB : Bx W B 25 p.row) :
    Calls Try.prog 46 #[q.val, .pointer (some ⟨B, 0, none⟩)] W fun e W' => e = .returned (.bool (!eqP q p && covP q p)) ∧ Below W.heap.size W W' := by
  have hb : Below W.heap.size W (W.alloc (.cells q.row.toArray 25)) := (Below.refl _ _).alloc (Nat.le_refl _) _
  have RQ := Lib.hid (rangeAll (Bx.new W 25 q.row))
  have RP := Lib.hid (rangeAll (hB.up hb))
  have HB := Lib.hid hb
  have HC := Lib.hid (fun V => covers_any q p V hq hp)
  have HQ := Lib.hid hq
  have HP := Lib.hid hp
  have HE := Lib.hid (show eqP q p = eqP q p from rfl)
  rw [show q.val = .agg q.row.toArray from rfl]
  clear hq hp hB hb
  generalize covP q p = c at *
  generalize hbb : eqP q p = b at *
  cases b with
  | true =>
    go_enter Try.func46, Try.ntmps46
    go_wp2_with (first
      | (refine plV rfl q.val (exec_load_any _ (.tmp 2) rfl W.heap.size 0 q.row _ rfl RQ.out Try.underlying25 rfl (pf_infoC HQ.out)) ?_)
      | (refine plV rfl p.val (exec_load_any _ (.tmp 1) rfl B 0 p.row _ rfl RP.out Try.underlying25 rfl (pf_infoC HP.out)) ?_)
      | (refine plV rfl (.bool false) ((exec_neq_pfx 4 5 _ rfl q p HQ.out HP.out rfl rfl).trans (by rw [hbb]; rfl)) ?_))
    go_ret
    exact ⟨rfl, HB.out⟩
  | false =>
    go_enter Try.func46, Try.ntmps46
    go_wp2_with (first
      | (refine plV rfl q.val (exec_load_any _ (.tmp 2) rfl W.heap.size 0 q.row _ rfl RQ.out Try.underlying25 rfl (pf_infoC HQ.out)) ?_)
      | (refine plV rfl p.val (exec_load_any _ (.tmp 1) rfl B 0 p.row _ rfl RP.out Try.underlying25 rfl (pf_infoC HP.out)) ?_)
      | (refine plV rfl (.bool true) ((exec_neq_pfx 4 5 _ rfl q p HQ.out HP.out rfl rfl).trans (by rw [hbb]; rfl)) ?_)
      | (go_at_call 47; refine (HC.out _).mono ?_; rintro e w1 ⟨rfl, b1⟩; refine Hid.out ?_))
    refine Lib.hid ?_
    go_wp2
    go_ret
    exact ⟨rfl, below_up HB.out b1 HB.out.size⟩
set_option maxRecDepth 100000 in
set_option maxHeartbeats 4000000 in
theorem belowC (q p : Pfx) (B : Nat) (W : World) (hq : q.addr.length = 16) (hp : p.addr.length = 16) (hB : Bx W B 25 p.row) :
    Calls Try.prog 49 #[q.val, .pointer (some ⟨B, 0, none⟩)] W fun e W' => e = .returned (.bool (covP p q)) ∧ Below W.heap.size W W' := by
  have hb : Below W.heap.size W (W.alloc (.cells q.row.toArray 25)) := (Below.refl _ _).alloc (Nat.le_refl _) _
  have RQ := Lib.hid (rangeAll (Bx.new W 25 q.row))
  have RP := Lib.hid (rangeAll (hB.up hb))
  have HB := Lib.hid hb
  have HC := Lib.hid (fun V => covers_any p q V hp hq)
  have HQ := Lib.hid hq
  have HP := Lib.hid hp
  rw [show q.val = .agg q.row.toArray from rfl]
  clear hq hp hB hb
  generalize covP p q = c at *
  go_enter Try.func49, Try.ntmps49
  go_wp2_with (first
    | (refine plV rfl q.val (exec_load_any _ (.tmp 2) rfl W.heap.size 0 q.row _ rfl RQ.out Try.underlying25 rfl (pf_infoC HQ.out)) ?_)
    | (refine plV rfl p.val (exec_load_any _ (.tmp 1) rfl B 0 p.row _ rfl RP.out Try.underlying25 rfl (pf_infoC HP.out)) ?_)
    | (go_at_call 47; refine (HC.out _).mono ?_; rintro e w1 ⟨rfl, b1⟩; refine Hid.out ?_))
  refine Lib.hid ?_
  go_wp2
  go_ret
  exact ⟨rfl, below_up HB.out b1 HB.out.size⟩
set_option maxRecDepth 100000 in
set_option maxHeartbeats 4000000 in
theorem kinAC (f : Pfx × Int → Bool) (x : Pfx × Int) (S B : Nat) (W : World) (hx : (itF x).length = 19) (hS : Bx W S 89 [.func (.func 46) #[] #[.pointer (some ⟨B, 0, none⟩)]])
    (hc : ∀ V, Below W.heap.size W V → Calls Try.prog 46 #[x.1.val, .pointer (some ⟨B, 0, none⟩)] V fun e V' => e = .returned (.bool (f x)) ∧ Below V.heap.size V V') :
    Calls Try.prog 63 #[itV x.1 x.2, .pointer (some ⟨S, 0, none⟩)] W fun e W' => e = .returned (.bool (f x)) ∧ Below W.heap.size W W' := by
  have hb : Below W.heap.size W (W.alloc (.cells (itR x.1 x.2).toArray 44)) := (Below.refl _ _).alloc (Nat.le_refl _) _
  have RX := Lib.hid ((Bx.new W 44 (itR x.1 x.2)).range 0 x.1.row it_pre)
  have cS : (W.alloc (.cells (itR x.1 x.2).toArray 44)).cell? ⟨S, 0, none⟩ = some (.func (.func 46) #[] #[.pointer (some ⟨B, 0, none⟩)]) := by
    rw [(hS.up hb).cell]
    rfl
  have HB := Lib.hid hb
  have HC := Lib.hid (hc _ hb)
  have HX := Lib.hid (itF_addr hx)
  rw [show itV x.1 x.2 = .agg (itR x.1 x.2).toArray from rfl]
  clear hx hS hb hc
  generalize f x = c at *
  go_enter Try.func63, Try.ntmps63
  go_wp2_with (first
    | (refine plV rfl x.1.val (exec_load_any _ (.tmp 5) rfl W.heap.size 0 x.1.row _ rfl RX.out Try.underlying25 rfl (pf_infoC HX.out)) ?_)
    | (go_at_call 46; refine HC.out.mono ?_; rintro e w1 ⟨rfl, b1⟩; refine Hid.out ?_))
  refine Lib.hid ?_
  go_wp2
  go_ret
  exact ⟨rfl, below_up HB.out b1 HB.out.size⟩
set_option maxRecDepth 100000 in
set_option maxHeartbeats 4000000 in
theorem kinA (f : Pfx × Int → Bool) (p : Pfx) (B : Nat) {w : World} {X : Nat → Prop} {pt : Value} {is : Bool} {room : Int} {L : Bool → List (Pfx × Int)} {N : Nat} (h : FibQ w X pt is room L N) (hN : N ≤ 400000) (hp : p.addr.length = 16)
    (hc : ∀ x ∈ L p.six, ∀ V, Below w.heap.size w V → Calls Try.prog 46 #[x.1.val, .pointer (some ⟨B, 0, none⟩)] V fun e V' => e = .returned (.bool (f x)) ∧ Below V.heap.size V V') :
    Calls Try.prog 45 #[pt, p.val, .func (.func 46) #[] #[.pointer (some ⟨B, 0, none⟩)]] w fun e w' => ∃ v, e = .returned v ∧ w'.ownsRow w.heap.size 44 19 v (if chkP p = true then (L p.six).filter f else []).length ((if chkP p = true then (L p.six).filter f else []).flatMap itF) ∧ Below w.heap.size w w' := by
  have HT := Lib.hid (twoB_new w 25 89 p.row [.func (.func 46) #[] #[.pointer (some ⟨B, 0, none⟩)]])
  have HP := Lib.hid hp
  have HCH := Lib.hid (fun W => pcheck_any p W hp)
  have HCC := Lib.hid hc
  have H16 : Hid (∀ x ∈ L p.six, (itF x).length = 19) := Lib.hid (fun x hx => it_len ((h.order p.six).2 x hx).2.1 _)
  have HL := Lib.hid (Nat.le_trans (h.len p.six) hN)
  obtain ⟨pp, Y, h⟩ := h
  have HO := Lib.hid (fun W (hW : Below w.heap.size w W) => of_any W pt pp p.six (h.box.up hW))
  have HA := Lib.hid (fun W (hW : Below w.heap.size w W) => allQ ((h.tab p.six).up hW) (by omega))
  have hmf := hmfF
  rw [show p.val = .agg p.row.toArray from rfl]
  clear h hp hc hN
  generalize L p.six = M at *
  generalize pp p.six = tp at *
  have R0 := Lib.hid (rangeAll HT.out.1)
  cases hck : chkP p with
  | false =>
    rw [hck] at HCH
    simp only [Bool.false_eq_true, if_false] at HCH ⊢
    go_enter Try.func45, Try.ntmps45
    go_wp2_with (first
      | (refine plV rfl p.val (exec_load_any _ (.tmp 4) rfl w.heap.size 0 p.row _ rfl R0.out Try.underlying25 rfl (pf_infoC HP.out)) ?_)
      | (go_at_call 62; refine (HCH.out _).mono ?_; rintro e w1 ⟨rfl, b1⟩; refine Hid.out ?_))
    refine Lib.hid ?_
    go_wp2
    go_ret
    exact ⟨_, rfl, World.ownsRow_nil _ _ _ _, below_up HT.out.2.2 b1 HT.out.2.2.size⟩
  | true =>
    rw [hck] at HCH
    simp only [if_true] at HCH ⊢
    go_enter Try.func45, Try.ntmps45
    go_wp2_with (first
      | (refine plV rfl p.val (exec_load_any _ (.tmp 4) rfl w.heap.size 0 p.row _ rfl R0.out Try.underlying25 rfl (pf_infoC HP.out)) ?_)
      | (go_at_call 62; refine (HCH.out _).mono ?_; rintro e w1 ⟨rfl, b1⟩; refine Hid.out ?_))
    refine Lib.hid ?_
    have T1 := Lib.hid (HT.out.up b1)
    have c0 : w1.cell? ⟨w.heap.size, 0, none⟩ = some (.bool p.six) := by rw [T1.out.1.cell]; rfl
    have HO1 := Lib.hid (HO.out _ T1.out.2.2)
    clear b1 HT R0 HCH HO
    go_wp2_with (go_at_call 32; refine HO1.out.mono ?_; rintro e w2 ⟨rfl, b2⟩; refine Hid.out ?_)
    refine Lib.hid ?_
    have T2 := Lib.hid (T1.out.up b2)
    have HA2 := Lib.hid (HA.out _ T2.out.2.2)
    clear b2 T1 HO1 HA c0
    go_wp2_with (go_at_call 44; refine HA2.out.mono ?_; rintro e w3 ⟨va, vc, rfl, l3, b3⟩; refine Hid.out ?_)
    refine Lib.hid ?_
    have T3 := Lib.hid (T2.out.up b3)
    have HK := Lib.hid (keepK f M va vc (w.heap.size + 1) w3 l3 (by have := HL.out; omega) (fun x hx W hW => kinAC f x (w.heap.size + 1) B W (H16.out x hx) (T3.out.2.1.up hW) (fun V hV => HCC.out x hx V (below_up (below_up T3.out.2.2 hW T3.out.2.2.size) hV (by have := T3.out.2.2.size; have := hW.size; omega)))))
    clear l3 b3 T2 HA2
    go_wp2_with (go_at_call 40; refine HK.out.mono ?_; rintro e w4 ⟨u, rfl, o4, b4⟩; refine Hid.out ?_)
    refine Lib.hid ?_
    have HO4 := Lib.hid (own_mono o4 T3.out.2.2.size)
    have HB4 := Lib.hid (below_up T3.out.2.2 b4 T3.out.2.2.size)
    clear o4 b4 HK T3
    go_wp2
    go_ret
    exact ⟨_, rfl, HO4.out, HB4.out⟩
set_option maxRecDepth 100000 in
set_option maxHeartbeats 4000000 in
theorem kinBC (f : Pfx × Int → Bool) (x : Pfx × Int) (S B : Nat) (W : World) (hx : (itF x).length = 19) (hS : Bx W S 89 [.func (.func 49) #[] #[.pointer (some ⟨B, 0, none⟩)]])
    (hc : ∀ V, Below W.heap.size W V → Calls Try.prog 49 #[x.1.val, .pointer (some ⟨B, 0, none⟩)] V fun e V' => e = .returned (.bool (f x)) ∧ Below V.heap.size V V') :
    Calls Try.prog 63 #[itV x.1 x.2, .pointer (some ⟨S, 0, none⟩)] W fun e W' => e = .returned (.bool (f x)) ∧ Below W.heap.size W W' := by
  have hb : Below W.heap.size W (W.alloc (.cells (itR x.1 x.2).toArray 44)) := (Below.refl _ _).alloc (Nat.le_refl _) _
  have RX := Lib.hid ((Bx.new W 44 (itR x.1 x.2)).range 0 x.1.row it_pre)
  have cS : (W.alloc (.cells (itR x.1 x.2).toArray 44)).cell? ⟨S, 0, none⟩ = some (.func (.func 49) #[] #[.pointer (some ⟨B, 0, none⟩)]) := by
    rw [(hS.up hb).cell]
    rfl
  have HB := Lib.hid hb
  have HC := Lib.hid (hc _ hb)
  have HX := Lib.hid (itF_addr hx)
  rw [show itV x.1 x.2 = .agg (itR x.1 x.2).toArray from rfl]
  clear hx hS hb hc
  generalize f x = c at *
  go_enter Try.func63, Try.ntmps63
  go_wp2_with (first
    | (refine plV rfl x.1.val (exec_load_any _ (.tmp 5) rfl W.heap.size 0 x.1.row _ rfl RX.out Try.underlying25 rfl (pf_infoC HX.out)) ?_)
    | (go_at_call 49; refine HC.out.mono ?_; rintro e w1 ⟨rfl, b1⟩; refine Hid.out ?_))
  refine Lib.hid ?_
  go_wp2
  go_ret
  exact ⟨rfl, below_up HB.out b1 HB.out.size⟩
set_option maxRecDepth 100000 in
set_option maxHeartbeats 4000000 in
theorem kinB (f : Pfx × Int → Bool) (p : Pfx) (B : Nat) {w : World} {X : Nat → Prop} {pt : Value} {is : Bool} {room : Int} {L : Bool → List (Pfx × Int)} {N : Nat} (h : FibQ w X pt is room L N) (hN : N ≤ 400000) (hp : p.addr.length = 16)
    (hc : ∀ x ∈ L p.six, ∀ V, Below w.heap.size w V → Calls Try.prog 49 #[x.1.val, .pointer (some ⟨B, 0, none⟩)] V fun e V' => e = .returned (.bool (f x)) ∧ Below V.heap.size V V') :
    Calls Try.prog 45 #[pt, p.val, .func (.func 49) #[] #[.pointer (some ⟨B, 0, none⟩)]] w fun e w' => ∃ v, e = .returned v ∧ w'.ownsRow w.heap.size 44 19 v (if chkP p = true then (L p.six).filter f else []).length ((if chkP p = true then (L p.six).filter f else []).flatMap itF) ∧ Below w.heap.size w w' := by
  have HT := Lib.hid (twoB_new w 25 89 p.row [.func (.func 49) #[] #[.pointer (some ⟨B, 0, none⟩)]])
  have HP := Lib.hid hp
  have HCH := Lib.hid (fun W => pcheck_any p W hp)
  have HCC := Lib.hid hc
  have H16 : Hid (∀ x ∈ L p.six, (itF x).length = 19) := Lib.hid (fun x hx => it_len ((h.order p.six).2 x hx).2.1 _)
  have HL := Lib.hid (Nat.le_trans (h.len p.six) hN)
  obtain ⟨pp, Y, h⟩ := h
  have HO := Lib.hid (fun W (hW : Below w.heap.size w W) => of_any W pt pp p.six (h.box.up hW))
  have HA := Lib.hid (fun W (hW : Below w.heap.size w W) => allQ ((h.tab p.six).up hW) (by omega))
  have hmf := hmfF
  rw [show p.val = .agg p.row.toArray from rfl]
  clear h hp hc hN
  generalize L p.six = M at *
  generalize pp p.six = tp at *
  have R0 := Lib.hid (rangeAll HT.out.1)
  cases hck : chkP p with
  | false =>
    rw [hck] at HCH
    simp only [Bool.false_eq_true, if_false] at HCH ⊢
    go_enter Try.func45, Try.ntmps45
    go_wp2_with (first
      | (refine plV rfl p.val (exec_load_any _ (.tmp 4) rfl w.heap.size 0 p.row _ rfl R0.out Try.underlying25 rfl (pf_infoC HP.out)) ?_)
      | (go_at_call 62; refine (HCH.out _).mono ?_; rintro e w1 ⟨rfl, b1⟩; refine Hid.out ?_))
    refine Lib.hid ?_
    go_wp2
    go_ret
    exact ⟨_, rfl, World.ownsRow_nil _ _ _ _, below_up HT.out.2.2 b1 HT.out.2.2.size⟩
  | true =>
    rw [hck] at HCH
    simp only [if_true] at HCH ⊢
    go_enter Try.func45, Try.ntmps45
    go_wp2_with (first
      | (refine plV rfl p.val (exec_load_any _ (.tmp 4) rfl w.heap.size 0 p.row _ rfl R0.out Try.underlying25 rfl (pf_infoC HP.out)) ?_)
      | (go_at_call 62; refine (HCH.out _).mono ?_; rintro e w1 ⟨rfl, b1⟩; refine Hid.out ?_))
    refine Lib.hid ?_
    have T1 := Lib.hid (HT.out.up b1)
    have c0 : w1.cell? ⟨w.heap.size, 0, none⟩ = some (.bool p.six) := by rw [T1.out.1.cell]; rfl
    have HO1 := Lib.hid (HO.out _ T1.out.2.2)
    clear b1 HT R0 HCH HO
    go_wp2_with (go_at_call 32; refine HO1.out.mono ?_; rintro e w2 ⟨rfl, b2⟩; refine Hid.out ?_)
    refine Lib.hid ?_
    have T2 := Lib.hid (T1.out.up b2)
    have HA2 := Lib.hid (HA.out _ T2.out.2.2)
    clear b2 T1 HO1 HA c0
    go_wp2_with (go_at_call 44; refine HA2.out.mono ?_; rintro e w3 ⟨va, vc, rfl, l3, b3⟩; refine Hid.out ?_)
    refine Lib.hid ?_
    have T3 := Lib.hid (T2.out.up b3)
    have HK := Lib.hid (keepK f M va vc (w.heap.size + 1) w3 l3 (by have := HL.out; omega) (fun x hx W hW => kinBC f x (w.heap.size + 1) B W (H16.out x hx) (T3.out.2.1.up hW) (fun V hV => HCC.out x hx V (below_up (below_up T3.out.2.2 hW T3.out.2.2.size) hV (by have := T3.out.2.2.size; have := hW.size; omega)))))
    clear l3 b3 T2 HA2
    go_wp2_with (go_at_call 40; refine HK.out.mono ?_; rintro e w4 ⟨u, rfl, o4, b4⟩; refine Hid.out ?_)
    refine Lib.hid ?_
    have HO4 := Lib.hid (own_mono o4 T3.out.2.2.size)
    have HB4 := Lib.hid (below_up T3.out.2.2 b4 T3.out.2.2.size)
    clear o4 b4 HK T3
    go_wp2
    go_ret
    exact ⟨_, rfl, HO4.out, HB4.out⟩
set_option maxRecDepth 100000 in
set_option maxHeartbeats 4000000 in
theorem fabove (p : Pfx) {w : World} {X : Nat → Prop} {pt : Value} {is : Bool} {room : Int} {L : Bool → List (Pfx × Int)} {N : Nat} (h : FibQ w X pt is room L N) (hN : N ≤ 400000) (hp : p.addr.length = 16) :
    Calls Try.prog 22 #[pt, p.val] w fun e w' => ∃ va vc, e = .returned (.slice va (abvL p (L p.six)).length vc) ∧ IsC itF 19 w' (.slice va (abvL p (L p.six)).length vc) (abvL p (L p.six)) ∧ Below w.heap.size w w' := by
  have hb : Below w.heap.size w (w.alloc (.cells p.row.toArray 25)) := (Below.refl _ _).alloc (Nat.le_refl _) _
  have HX := Lib.hid (Bx.new w 25 p.row)
  have HB := Lib.hid hb
  have HP := Lib.hid hp
  have h16 : ∀ x ∈ L p.six, x.1.addr.length = 16 := fun x hx => ((h.order p.six).2 x hx).2.1
  have HK := Lib.hid (kinA (abvF p) p w.heap.size (h.up hb) hN hp (fun x hx V hV => aboveC x.1 p w.heap.size V (h16 x hx) hp (HX.out.up hV)))
  have HM : Hid (∀ x ∈ (if chkP p = true then (L p.six).filter (abvF p) else []), (itF x).length = 19) := Lib.hid (fun x hx => by
    split at hx
    · exact it_len (h16 x (List.mem_filter.1 hx).1) _
    · cases hx)
  have HLN : Hid ((if chkP p = true then (L p.six).filter (abvF p) else []).length ≤ 900000) := Lib.hid (by
    have := h.len p.six
    split
    · exact Nat.le_trans (List.length_filter_le _ _) (by omega)
    · simp)
  have HE : Hid (abvL p (L p.six) = (if chkP p = true then (L p.six).filter (abvF p) else []).reverse) := Lib.hid (by unfold abvL; split <;> rfl)
  rw [HE.out]
  have hmf := hmfF
  have R0 := Lib.hid (rangeAll HX.out)
  rw [show p.val = .agg p.row.toArray from rfl]
  clear h hp hb hN h16 HE
  generalize (if chkP p = true then (L p.six).filter (abvF p) else []) = M at *
  go_enter Try.func22, Try.ntmps22
  go_wp2_with (first
    | (refine plV rfl p.val (exec_load_any _ (.tmp 3) rfl w.heap.size 0 p.row _ rfl R0.out Try.underlying25 rfl (pf_infoC HP.out)) ?_)
    | (go_at_call 45; refine HK.out.mono ?_; rintro e w1 ⟨v, rfl, o1, b1⟩; refine Hid.out ?_))
  refine Lib.hid ?_
  have HR := Lib.hid (reverse_any M v _ w1 HM.out o1 HLN.out)
  have HB1 := Lib.hid (below_up HB.out b1 HB.out.size)
  have HS : Hid ((w.alloc (.cells p.row.toArray 25)).heap.size = w.heap.size + 1) := Lib.hid (by simp)
  clear o1 b1 HK R0 HX
  go_wp2_with (go_at_call 48; refine HR.out.mono ?_; rintro e w2 ⟨rfl, o2, b2⟩; refine Hid.out ?_)
  refine Lib.hid ?_
  have HO2 := Lib.hid (own_isC (M := M.reverse) (fun x hx => HM.out x (List.mem_reverse.1 hx)) (by rw [List.length_reverse]; exact o2))
  have HB2 := Lib.hid (HB1.out.trans (b2.mono (by have := HS.out; omega)))
  clear o2 b2 HR HB1
  go_wp2
  go_ret
  obtain ⟨va, vc, rfl, hc⟩ := HO2.out
  exact ⟨va, vc, rfl, hc, HB2.out⟩
set_option maxRecDepth 100000 in
set_option maxHeartbeats 4000000 in
theorem fbelow (p : Pfx) {w : World} {X : Nat → Prop} {pt : Value} {is : Bool} {room : Int} {L : Bool → List (Pfx × Int)} {N : Nat} (h : FibQ w X pt is room L N) (hN : N ≤ 400000) (hp : p.addr.length = 16) :
    Calls Try.prog 24 #[pt, p.val] w fun e w' => ∃ va vc, e = .returned (.slice va (belL p (L p.six)).length vc) ∧ IsC itF 19 w' (.slice va (belL p (L p.six)).length vc) (belL p (L p.six)) ∧ Below w.heap.size w w' := by
  have hb : Below w.heap.size w (w.alloc (.cells p.row.toArray 25)) := (Below.refl _ _).alloc (Nat.le_refl _) _
  have HX := Lib.hid (Bx.new w 25 p.row)
  have HB := Lib.hid hb
  have HP := Lib.hid hp
  have h16 : ∀ x ∈ L p.six, x.1.addr.length = 16 := fun x hx => ((h.order p.six).2 x hx).2.1
  have HK := Lib.hid (kinB (belF p) p w.heap.size (h.up hb) hN hp (fun x hx V hV => belowC x.1 p w.heap.size V (h16 x hx) hp (HX.out.up hV)))
  have HM : Hid (∀ x ∈ belL p (L p.six), (itF x).length = 19) := Lib.hid (fun x hx => by
    unfold belL at hx
    split at hx
    · exact it_len (h16 x (List.mem_filter.1 hx).1) _
    · cases hx)
  have hmf := hmfF
  have R0 := Lib.hid (rangeAll HX.out)
  rw [show (if chkP p = true then (L p.six).filter (belF p) else []) = belL p (L p.six) from rfl] at HK
  rw [show p.val = .agg p.row.toArray from rfl]
  clear h hp hb hN h16
  generalize belL p (L p.six) = M at *
  go_enter Try.func24, Try.ntmps24
  go_wp2_with (first
    | (refine plV rfl p.val (exec_load_any _ (.tmp 3) rfl w.heap.size 0 p.row _ rfl R0.out Try.underlying25 rfl (pf_infoC HP.out)) ?_)
    | (go_at_call 45; refine HK.out.mono ?_; rintro e w1 ⟨v, rfl, o1, b1⟩; refine Hid.out ?_))
  refine Lib.hid ?_
  have HO2 := Lib.hid (own_isC HM.out o1)
  have HB1 := Lib.hid (below_up HB.out b1 HB.out.size)
  clear o1 b1 HK R0 HX
  go_wp2
  go_ret
  obtain ⟨va, vc, rfl, hc⟩ := HO2.out
  exact ⟨va, vc, rfl, hc, HB1.out⟩
end Go.Proofs.Ytgimcapcnidjjaa

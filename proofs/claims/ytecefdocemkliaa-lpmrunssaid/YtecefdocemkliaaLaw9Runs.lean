/- LpmRuns: any script is answered as the document's is. -/
import Derived.Test.YtecefdocemkliaaAw9b
import Derived.Test.YtecefdocemkliaaDuo9
namespace Go.Proofs.Ytecefdocemkliaa
open Go Go.RowKit

theorem st_info : (Try.prog.info? 34).map (·.size) = some 20 := by kernel_rfl
theorem st_one (s : Stp) : ∀ v ∈ stF s, v.oneCell' = true := by
  intro v hv
  unfold stF at hv
  rcases List.mem_cons.1 hv with rfl | hv
  · rfl
  · rcases List.mem_append.1 hv with hv | hv
    · exact row_one s.p v hv
    · rw [List.mem_singleton.1 hv]; rfl
theorem st_pre {s : Stp} : ((stF s).drop 1).take s.p.row.length = s.p.row := by simp [stF]
theorem st_adr {s : Stp} : ((stF s).drop 2).take (byteVals s.p.addr).length = byteVals s.p.addr := by simp [stF, Pfx.row]
theorem st_val {s : Stp} (h : s.p.addr.length = 16) : (stF s)[19]? = some (.int .i64 s.v) := by
  unfold stF
  rw [List.getElem?_cons_succ, List.getElem?_append_right (by rw [row_len h]; omega), row_len h]
  rfl
theorem step_row {W : World} {a : Option Addr} {n cap : Nat} {l : List Stp} (h : IsC stF 20 W (.slice a n cap) l) (j : Nat) (s : Stp) (hs : l[j]? = some s) : ∃ b k, a = some ⟨b, k, none⟩ ∧ b < W.heap.size ∧ W.rangeAt b (k + j * 20) (stF s) := by
  obtain ⟨_, _, _, h3⟩ := h.shape
  have hlt := (List.getElem?_eq_some_iff.1 hs).1
  obtain ⟨b, k, rfl, hb, hr⟩ := h3 (by omega)
  exact ⟨b, k, rfl, hb, flat_range h.1 hr j s hs⟩
/-- Is a pointer none? -/
theorem exec_neq_nil {ρ : Operand → Value} {o : Oper} {W : World} (i : Nat) (ty : TypeId) (ho : o.op = .binOp .neq 24 (.tmp i) (.const (.pointer none)) ty) (pt : Value) (is : Bool) (hp : (is = true ∧ ∃ g, pt = .pointer (some ⟨g, 0, none⟩)) ∨ (is = false ∧ pt = .pointer none)) (hx : ρ (.tmp i) = pt) (hc : ρ (.const (.pointer none)) = .pointer none) :
    (execOp ρ o).run Try.prog W = .ok (.value (.bool is)) W := by
  unfold execOp
  rcases hp with ⟨rfl, g, rfl⟩ | ⟨rfl, rfl⟩ <;> simp only [ho, hx, hc, Sem.run_bind] <;> go_simp
theorem newQ (six : Bool) (room : Int) : ∃ is six2 room2, (∀ W, Calls Try.prog 6 #[.bool six, .int .i64 room] W fun e W' => ∃ pt X, e = .returned pt ∧ TabQ W' X pt is six2 room2 [] 1 ∧ Below W.heap.size W W' ∧ ∀ k, X k → W.heap.size ≤ k) ∧
    (∀ W, Calls Try.prog 7 #[.bool six, .int .i64 room] W fun e W' => e = .returned (tV is six2 room2 (.slice none 0 0)) ∧ Below W.heap.size W W') := by
  by_cases h : 1 ≤ room ∧ room ≤ 65536
  · refine ⟨true, six, room, fun W => ?_, fun W => qnew_some six room W h.1 h.2⟩
    refine (newZ six room W h.1 h.2).mono ?_
    rintro e W' ⟨g, X, rfl, t, b, x⟩
    exact ⟨_, X, rfl, .inl ⟨rfl, g, rfl, t, by simp; omega⟩, b, x⟩
  · have h' : room < 1 ∨ 65536 < room := by omega
    refine ⟨false, false, 0, fun W => ?_, fun W => qnew_none six room W h'⟩
    refine (new_none six room W h').mono ?_
    rintro e W' ⟨rfl, rfl⟩
    exact ⟨_, fun _ => False, rfl, .inr ⟨rfl, rfl, rfl, fun _ h => h⟩, Below.refl _ _, fun _ h => h.elim⟩
theorem TabQ.ptr {W : World} {X : Nat → Prop} {pt : Value} {is six : Bool} {room : Int} {L : List (Pfx × Int)} {N : Nat} (h : TabQ W X pt is six room L N) : (is = true ∧ ∃ g, pt = .pointer (some ⟨g, 0, none⟩)) ∨ (is = false ∧ pt = .pointer none) := by
  rcases h with ⟨h1, g, h2, _⟩ | ⟨h1, h2, _⟩
  · exact .inl ⟨h1, g, h2⟩
  · exact .inr ⟨h1, h2⟩
def HeldRn (bT : Nat) (v : Value) (bX bY : Nat) (p : Pfx) (x : Int) (W : World) : Prop := W.cell? ⟨bT, 3, none⟩ = some v ∧ W.rangeAt bX 0 p.row ∧ W.rangeAt bY 0 p.row ∧ W.cell? ⟨bX, 18, none⟩ = some (.int .i64 x) ∧ W.cell? ⟨bY, 18, none⟩ = some (.int .i64 x)
set_option maxRecDepth 100000 in
set_option maxHeartbeats 16000000 in
theorem runs_walk (six : Bool) (room : Int) (sa : Option Addr) (sn scap : Nat) (st : List Stp) (w : World) (_hr1 : -9223372036854775808 ≤ room) (_hr2 : room ≤ 9223372036854775807) (hS : IsC stF 20 w (.slice sa sn scap) st) (hok : ∀ s ∈ st, s.p.addr.length = 16) :
    Calls Try.prog 3 #[.bool six, .int .i64 room, .slice sa sn scap] w fun e w' => e = .returned (.bool true) ∧ Below w.heap.size w w' := by
  have HA := Lib.hid (fun W => awake9 W)
  have HSC := Lib.hid hS
  have HOK := Lib.hid hok
  obtain ⟨rfl, hcap, hcm, _⟩ := hS.shape
  unfold maxLen at hcm
  clear hS hok _hr1 _hr2
  by_cases h60 : 60 < st.length
  · have h60i : (60 : Int) < (st.length : Int) := by omega
    go_enter Try.func3, Try.ntmps3
    go_wp2_with (go_at_call 5; refine (HA.out _).mono ?_; rintro e w1 ⟨rfl, b1⟩; refine Hid.out ?_)
    refine Lib.hid ?_
    go_wp2
    go_ret
    exact ⟨rfl, b1⟩
  have h60i : (st.length : Int) ≤ 60 := by omega
  obtain ⟨is, six2, room2, hnt, hnr⟩ := newQ six room
  have HNT := Lib.hid hnt
  have HNR := Lib.hid hnr
  clear hnt hnr
  go_enter Try.func3, Try.ntmps3
  go_wp2_with (go_at_call 5; refine (HA.out _).mono ?_; rintro e w1 ⟨rfl, b1⟩; refine Hid.out ?_)
  refine Lib.hid ?_
  go_wp2_with (go_at_call 6; refine (HNT.out _).mono ?_; rintro e w2 ⟨pt, X, rfl, t2, b2, x2⟩; refine Hid.out ?_)
  refine Lib.hid ?_
  have HPT := Lib.hid t2.ptr
  go_wp2_with (go_at_call 7; refine (HNR.out _).mono ?_; rintro e w3 ⟨rfl, b3⟩; refine Hid.out ?_)
  refine Lib.hid ?_
  rw [show tV is six2 room2 (.slice none 0 0) = .agg (tR is six2 room2 (.slice none 0 0)).toArray from rfl]
  have hbA : Below w3.heap.size w3 (w3.alloc (.cells (tR is six2 room2 (.slice none 0 0)).toArray 28)) := (Below.refl _ _).alloc (Nat.le_refl _) _
  have hB3 : Below w.heap.size w w3 := below_up (below_up b1 b2 b1.size) b3 (below_up b1 b2 b1.size).size
  have z4 : DuoZ w (fun _ => False) pt is six2 room2 [] 1 w3.heap.size [] none 0 0 (w3.alloc (.cells (tR is six2 room2 (.slice none 0 0)).toArray 28)) := by
    refine ⟨⟨X, (t2.up b3).up hbA, fun k hk => ?_, fun hx => ?_, fun k h => h.elim, fun h0 => absurd h0 (by simp)⟩, Bx.new w3 _ _, IsC.nil _, ?_, below_up hB3 hbA hB3.size⟩
    · have := x2 k hk
      have := b1.size
      omega
    · have := t2.blocks _ hx
      have := b3.size
      omega
    · exact hB3.size
  have c40 : (w3.alloc (.cells (tR is six2 room2 (.slice none 0 0)).toArray 28)).cell? ⟨w3.heap.size, 0, none⟩ = some (.bool is) := by rw [z4.ref.cell]; rfl
  have HZ4 := Lib.hid z4
  clear t2 b2 x2 b3 b1 HNT HNR HA z4 hbA hB3
  go_wp2_with (first
    | (refine wpList_store_fresh rfl 28 (.tmp 9) (.tmp 34) rfl (tR is six2 room2 (.slice none 0 0)) _ w3.heap.size rfl rfl rfl t_info rfl (t_one _ _ _ _ rfl) ?_; refine Hid.out ?_))
  refine Lib.hid ?_
  generalize w3.alloc (.cells (tR is six2 room2 (.slice none 0 0)).toArray 28) = w4 at *
  generalize w3.heap.size = bT at *
  go_wp2_with (first
    | (refine plV rfl (.bool is) (exec_neq_nil 35 _ rfl pt is HPT.out rfl rfl) ?_))
  go_loopw [10] (fun r wr => ∃ (i : Nat) (L : List (Pfx × Int)) (a : Option Addr) (n cap : Nat), i ≤ st.length ∧ r = .int .i64 (i : Int) ∧ L.length ≤ i ∧ DuoZ w (fun _ => False) pt is six2 room2 L (1 + 150 * i) bT L a n cap wr) (fun r _ => st.length - (intOf r).toNat)
  case atStart => exact ⟨0, [], none, 0, 0, by omega, rfl, Nat.le_refl _, HZ4.out⟩
  case round =>
    obtain ⟨i, L, a, n, cap, hi, rfl, hLi, hz⟩ := hrel
    clear HZ4 c40
    by_cases hie : i = st.length
    · subst hie
      have HSA : Hid (Calls Try.prog 16 #[pt, tV is six2 room2 (.slice a n cap)] wr fun e w' => e = .returned (.bool true) ∧ Below wr.heap.size wr w') := by
        obtain ⟨X, h1, _⟩ := hz.tab
        exact same_any wr h1 (by omega) hz.lst
      have R1 := Lib.hid (rangeAll hz.ref)
      have HZ := Lib.hid hz
      clear hz
      go_wp2_with (first
        | (refine plV rfl (tV is six2 room2 (.slice a n cap)) (exec_load_any _ (.tmp 9) rfl bT 0 (tR is six2 room2 (.slice a n cap)) _ rfl R1.out Try.underlying28 rfl t_info) ?_)
        | (go_at_call 16; refine HSA.out.mono ?_; rintro e w6 ⟨rfl, b6⟩))
      go_ret
      exact ⟨rfl, (HZ.out.up b6).below⟩
    · have hlt : i < st.length := by omega
      obtain ⟨s, hs⟩ : ∃ s, st[i]? = some s := ⟨_, List.getElem?_eq_getElem hlt⟩
      have h16 := HOK.out s (List.mem_of_getElem? hs)
      obtain ⟨b, k, rfl, hbw, hr⟩ := step_row HSC.out i s hs
      have hii : (i : Int) < (st.length : Int) := by omega
      have HR := Lib.hid (show wr.rangeAt b (k + i * 20) (stF s) from fun j v hv => (hz.below.cell (p := ⟨b, k + i * 20 + j, none⟩) hbw).trans (hr j v hv))
      have H16 := Lib.hid h16
      have hsl := stF_len h16
      have hbA : Below wr.heap.size wr (wr.alloc (.cells (stF s).toArray 34)) := (Below.refl _ _).alloc (Nat.le_refl _) _
      have zb := hz.with hbA (fun k => k = wr.heap.size) (fun k hk => by subst hk; exact ⟨Nat.le_refl _, by simp⟩)
      have xb := Bx.new wr 34 (stF s)
      have hbT := hz.ref.lt
      have hbTne : wr.heap.size ≠ bT := by omega
      have HZb := Lib.hid zb
      have HXb := Lib.hid xb
      have HSL := Lib.hid hsl
      clear hr h16 hz zb xb hbA hs hsl hbT
      go_wp2_with (first
        | (refine plV rfl (.agg (stF s).toArray) (exec_load_any _ (.tmp 48) rfl b (k + i * 20) (stF s) _ rfl HR.out Try.underlying34 rfl (st_info.trans (by rw [HSL.out]))) ?_)
        | (refine wpList_store_fresh rfl 34 (.tmp 11) (.tmp 49) rfl (stF s) _ wr.heap.size rfl rfl rfl (st_info.trans (by rw [HSL.out])) (by rw [HSL.out]; rfl) (st_one s) ?_; refine Hid.out ?_))
      refine Lib.hid ?_
      clear HR
      have c0 : (wr.alloc (.cells (stF s).toArray 34)).cell? ⟨wr.heap.size, 0, none⟩ = some (.int .i64 s.k) := by rw [HXb.out.cell]; rfl
      have c19 : (wr.alloc (.cells (stF s).toArray 34)).cell? ⟨wr.heap.size, 19, none⟩ = some (.int .i64 s.v) := by rw [HXb.out.cell]; exact st_val H16.out
      have RP := Lib.hid (HXb.out.range 1 s.p.row st_pre)
      have HDO := Lib.hid (fun W (hl : IsC itF 19 W (.slice a n cap) L) => qdo s.k is six2 room2 a n cap L s.p s.v W hl H16.out (by omega))
      have hdl := doL_len s.k is six2 room2 L s.p s.v
      have HC0 := Lib.hid (show (stF s)[0]? = some (.int .i64 s.k) from rfl)
      generalize wr.alloc (.cells (stF s).toArray 34) = wb at *
      generalize wr.heap.size = bS at *
      -- the program's step; then the rest, the same in each case
      by_cases hk0 : s.k = 0
      · have hE : doE s.k is six2 room2 L s.p = rputE is six2 room2 L s.p := by unfold doE; rw [if_pos hk0]
        have hL : doL s.k is six2 room2 L s.p s.v = rputL is six2 room2 L s.p s.v := by unfold doL; rw [if_pos hk0]
        have HPU := Lib.hid (HZb.out.put s.p s.v H16.out (by omega))
        rw [← hE, ← hL] at HPU
        have HK := Lib.hid hk0
        clear hE hL hk0
        generalize doE s.k is six2 room2 L s.p = E at *
        generalize doL s.k is six2 room2 L s.p s.v = L1 at *
        have hkk := HK.out
        generalize s.k = sk at *
        subst hkk
        go_wp2_with (first
          | (refine plV rfl s.p.val (exec_load_any _ (.tmp 55) rfl bS 1 s.p.row _ rfl RP.out Try.underlying32 rfl (pf_infoC H16.out)) ?_)
          | (go_at_call 8; refine HPU.out.mono ?_; rintro e w5 ⟨rfl, z5, k5⟩; refine Hid.out ?_))
        refine Lib.hid ?_
        clear HPU
        have x5 := k5 _ _ _ rfl HXb.out
        clear k5
        have R1 := Lib.hid (rangeAll z5.ref)
        have R2 := Lib.hid (x5.range 1 s.p.row st_pre)
        have d0 : w5.cell? ⟨bS, 0, none⟩ = some (.int .i64 0) := by rw [x5.cell]; exact HC0.out
        have d19 : w5.cell? ⟨bS, 19, none⟩ = some (.int .i64 s.v) := by rw [x5.cell]; exact st_val H16.out
        have HD5 := Lib.hid (HDO.out w5 z5.lst)
        have HZ5 := Lib.hid z5
        have HX5 := Lib.hid x5
        clear z5 x5 RP HDO HZb HXb HC0 c0 c19
        go_wp2_with (first
          | (refine plV rfl (tV is six2 room2 (.slice a n cap)) (exec_load_any _ (.tmp 9) rfl bT 0 (tR is six2 room2 (.slice a n cap)) _ rfl R1.out Try.underlying28 rfl t_info) ?_)
          | (refine plV rfl s.p.val (exec_load_any _ (.tmp 70) rfl bS 1 s.p.row _ rfl R2.out Try.underlying32 rfl (pf_infoC H16.out)) ?_)
          | (go_at_call 10; refine HD5.out.mono ?_; rintro e w6 ⟨⟨a1, n1, cap1, rfl, l6, d6⟩, b6⟩; refine Hid.out ?_))
        refine Lib.hid ?_
        rw [show tV is six2 room2 (.slice a1 n1 cap1) = .agg (tR is six2 room2 (.slice a1 n1 cap1)).toArray from rfl]
        have hbA : Below w6.heap.size w6 (w6.alloc (.cells (tR is six2 room2 (.slice a1 n1 cap1)).toArray 28)) := (Below.refl _ _).alloc (Nat.le_refl _) _
        have hb7 := below_up b6 hbA b6.size
        have st7 := HZ5.out.settle hb7 (l6.below hbA) (by first | exact d6 | exact d6.imp (fun h => ⟨h.1, rfl⟩) id)
        have x8 := st7.2 bS _ _ rfl hbTne HX5.out
        have z8 := st7.1
        have R7 := Lib.hid (rangeAll (Bx.new w6 28 (tR is six2 room2 (.slice a1 n1 cap1))))
        have HR7 := Lib.hid (HZ5.out.ref.up hb7)
        have HZ8 := Lib.hid z8
        have HX8 := Lib.hid x8
        clear hbA hb7 st7 x8 z8 l6 d6 b6 HZ5 HX5 HD5 R1 R2 d0 d19
        go_wp2_with (first
          | (refine wpList_store_fresh rfl 28 (.tmp 13) (.tmp 75) rfl (tR is six2 room2 (.slice a1 n1 cap1)) _ w6.heap.size rfl rfl rfl t_info rfl (t_one _ _ _ _ rfl) ?_)
          | (refine plV rfl (tV is six2 room2 (.slice a1 n1 cap1)) (exec_load_any _ (.tmp 13) rfl w6.heap.size 0 (tR is six2 room2 (.slice a1 n1 cap1)) _ rfl R7.out Try.underlying28 rfl t_info) ?_)
          | (refine wpList_store_bx rfl 28 (.tmp 9) (.tmp 77) rfl bT (tR is six2 room2 (.slice a1 n1 cap1)) (tR is six2 room2 (.slice a n cap)) rfl rfl HR7.out t_info rfl (t_one _ _ _ _ rfl) ?_; refine Hid.out ?_))
        refine Lib.hid ?_
        clear R7 HR7
        generalize (w6.alloc (.cells (tR is six2 room2 (.slice a1 n1 cap1)).toArray 28)).setRow bT (tR is six2 room2 (.slice a1 n1 cap1)).toArray = w8 at *
        have HORD : Hid (InOrder cmpP (okP six2) L1) := by
          obtain ⟨X, h1, _⟩ := HZ8.out.tab
          exact Lib.hid h1.order
        have hx16 : ((lookT s.p.addr L1).getD it0).1.addr.length = 16 := by
          cases hl : lookT s.p.addr L1 with
          | none => rfl
          | some y => exact (HORD.out.2 y (look_mem s.p.addr _ y hl).1).2.1
        have HX16 := Lib.hid hx16
        have HQG := Lib.hid (fun W (hb : Below w8.heap.size w8 W) => qget is six2 room2 a1 n1 cap1 L1 s.p W (HZ8.out.lst.below hb) H16.out (by omega))
        have HQL := Lib.hid (fun W (hb : Below w8.heap.size w8 W) => qlook is six2 room2 a1 n1 cap1 L1 s.p.addr W six2 HORD.out (HZ8.out.lst.below hb) H16.out (by omega))
        obtain ⟨X8, hq8, _⟩ := HZ8.out.tab
        have HG := Lib.hid (getQ s.p hq8 H16.out)
        have HLK := Lib.hid (fun W (hb : Below w8.heap.size w8 W) => lookQ s.p.addr (hq8.up hb) H16.out)
        have HLEN := Lib.hid (fun W (hb : Below w8.heap.size w8 W) => lenQ (hq8.up hb))
        obtain ⟨hn1, hcap1, hcm1, _⟩ := HZ8.out.lst.shape
        subst hn1
        unfold maxLen at hcm1
        clear hx16 hq8
        generalize (getT cmpP s.p L1).getD 0 = gv at *
        generalize (getT cmpP s.p L1).isSome = gs at *
        generalize (lookT s.p.addr L1).getD it0 = x at *
        generalize (lookT s.p.addr L1).isSome = ls at *
        have RA := Lib.hid (HX8.out.range 1 s.p.row st_pre)
        go_wp2_with (first
          | (refine plV rfl s.p.val (exec_load_any _ (.tmp 80) rfl bS 1 s.p.row _ rfl RA.out Try.underlying32 rfl (pf_infoC H16.out)) ?_)
          | (go_at_call 11; refine HG.out.mono ?_; rintro e w9 ⟨rfl, b9⟩; refine Hid.out ?_))
        refine Lib.hid ?_
        have RB1 := Lib.hid (rangeAll (HZ8.out.ref.up b9))
        have RB2 := Lib.hid ((HX8.out.up b9).range 1 s.p.row st_pre)
        clear HG RA
        go_wp2_with (first
          | (refine plV rfl (tV is six2 room2 (.slice a1 (L1).length cap1)) (exec_load_any _ (.tmp 9) rfl bT 0 (tR is six2 room2 (.slice a1 (L1).length cap1)) _ rfl RB1.out Try.underlying28 rfl t_info) ?_)
          | (refine plV rfl s.p.val (exec_load_any _ (.tmp 87) rfl bS 1 s.p.row _ rfl RB2.out Try.underlying32 rfl (pf_infoC H16.out)) ?_)
          | (go_at_call 12; refine (HQG.out _ b9).mono ?_; rintro e w10 ⟨rfl, b10⟩; refine Hid.out ?_))
        refine Lib.hid ?_
        have B10 := below_up b9 b10 b9.size
        have RC := Lib.hid ((HX8.out.up B10).range 2 (byteVals s.p.addr) st_adr)
        clear RB1 RB2 HQG b9 b10
        go_wp2_with (first
          | (refine plV rfl (arrV s.p.addr) (exec_load_any _ (.tmp 95) rfl bS 2 (byteVals s.p.addr) _ rfl RC.out Try.underlying30 rfl (by rw [byteVals_length, H16.out]; exact arr16P.info)) ?_)
          | (go_at_call 13; refine (HLK.out _ B10).mono ?_; rintro e w11 ⟨rfl, b11⟩; refine Hid.out ?_))
        refine Lib.hid ?_
        have B11 := below_up B10 b11 B10.size
        have hbX : Below w11.heap.size w11 (w11.alloc (.cells (itR x.1 x.2).toArray 44)) := (Below.refl _ _).alloc (Nat.le_refl _) _
        have B12 := below_up B11 hbX B11.size
        have xb := Bx.new w11 44 (itR x.1 x.2)
        have RD1 := Lib.hid (rangeAll (HZ8.out.ref.up B12))
        have RD2 := Lib.hid ((HX8.out.up B12).range 2 (byteVals s.p.addr) st_adr)
        have HXB := Lib.hid xb
        have HB12 := Lib.hid B12
        clear RC HLK B10 b11 B11 hbX xb B12
        rw [show itV x.1 x.2 = .agg (itR x.1 x.2).toArray from rfl]
        go_wp2_with (first
          | (refine wpList_store_fresh rfl 44 (.tmp 19) (.tmp 98) rfl (itR x.1 x.2) _ w11.heap.size rfl rfl rfl (it_infoC HX16.out x.2) (by rw [it_len HX16.out]; rfl) (it_one _ _) ?_)
          | (refine plV rfl (tV is six2 room2 (.slice a1 (L1).length cap1)) (exec_load_any _ (.tmp 9) rfl bT 0 (tR is six2 room2 (.slice a1 (L1).length cap1)) _ rfl RD1.out Try.underlying28 rfl t_info) ?_)
          | (refine plV rfl (arrV s.p.addr) (exec_load_any _ (.tmp 103) rfl bS 2 (byteVals s.p.addr) _ rfl RD2.out Try.underlying30 rfl (by rw [byteVals_length, H16.out]; exact arr16P.info)) ?_)
          | (go_at_call 14; refine (HQL.out _ HB12.out).mono ?_; rintro e w13 ⟨rfl, b13⟩; refine Hid.out ?_))
        refine Lib.hid ?_
        have B13 := below_up HB12.out b13 HB12.out.size
        have hbY : Below w13.heap.size w13 (w13.alloc (.cells (itR x.1 x.2).toArray 47)) := (Below.refl _ _).alloc (Nat.le_refl _) _
        have xb14 := (HXB.out.up b13).up hbY
        have yb14 := Bx.new w13 47 (itR x.1 x.2)
        have B14 := below_up B13 hbY B13.size
        have HXB14 := Lib.hid xb14
        have HYB14 := Lib.hid yb14
        have HB14 := Lib.hid B14
        clear RD1 RD2 HQL B13 b13 hbY xb14 yb14 B14 HXB HB12
        rw [show itV x.1 x.2 = .agg (itR x.1 x.2).toArray from rfl]
        generalize w11.heap.size = bX at *
        go_wp2_with (first
          | (refine wpList_store_fresh rfl 47 (.tmp 21) (.tmp 106) rfl (itR x.1 x.2) _ w13.heap.size rfl rfl rfl (i_infoC HX16.out x.2) (by rw [it_len HX16.out]; rfl) (it_one _ _) ?_; refine Hid.out ?_))
        refine Lib.hid ?_
        generalize w13.alloc (.cells (itR x.1 x.2).toArray 47) = w14 at *
        generalize w13.heap.size = bY at *
        have hH : HeldRn bT (.slice a1 (L1).length cap1) bX bY x.1 x.2 w14.drew := by
          refine ⟨?_, HXB14.out.range 0 x.1.row it_pre, HYB14.out.range 0 x.1.row it_pre, ?_, ?_⟩
          · have := (HZ8.out.ref.up HB14.out).cell 3
            exact this.trans rfl
          · have := HXB14.out.cell 18
            exact this.trans (it_v HX16.out)
          · have := HYB14.out.cell 18
            exact this.trans (it_v HX16.out)
        have HZE := Lib.hid ((HZ8.out.up HB14.out).less (fun _ => False) (fun _ h => h.elim))
        clear HXB14 HYB14 HX8 HZ8
        go_wp2
        refine wp_region_noPanic ?_
        refine wp_region_held_drew (S := HeldRn bT (.slice a1 (L1).length cap1) bX bY x.1 x.2) (by kernel_rfl) hH (fun hHeld => ?_)
        refine held_take (v := ?v287) 0 rfl (by kernel_rfl) (by kernel_rfl) (by kernel_rfl) (fun _ _ _ h => h) (by rfl) ?y287 (by assumption) ?_
        case y287 => (intro w hSw; unfold HeldRn at hSw; go_simp; (try with_reducible rfl); (try omega))
        simp only [List.setIfInBounds_toArray, List.set_cons_zero, List.set_cons_succ]
        refine held_take (v := ?v290) 1 rfl (by kernel_rfl) (by kernel_rfl) (by kernel_rfl) (fun _ _ _ h => h) (by rfl) ?y290 (by assumption) ?_
        case y290 => (intro w hSw; unfold HeldRn at hSw; go_simp; (try with_reducible rfl); (try omega))
        simp only [List.setIfInBounds_toArray, List.set_cons_zero, List.set_cons_succ]
        refine held_take (v := .bool false) 2 rfl (by kernel_rfl) (by kernel_rfl) (by kernel_rfl) (fun _ _ _ h => h) (by rfl) (fun W hSw => (by go_simp)) (by assumption) ?_
        simp only [List.setIfInBounds_toArray, List.set_cons_zero, List.set_cons_succ]
        refine held_take (v := ?v295) 3 rfl (by kernel_rfl) (by kernel_rfl) (by kernel_rfl) (fun _ _ _ h => h) (by rfl) ?y295 (by assumption) ?_
        case y295 => (intro w hSw; unfold HeldRn at hSw; go_simp; (try with_reducible rfl); (try omega))
        simp only [List.setIfInBounds_toArray, List.set_cons_zero, List.set_cons_succ]
        refine held_take (v := ?v298) 4 rfl (by kernel_rfl) (by kernel_rfl) (by kernel_rfl) (fun _ _ _ h => h) (by rfl) ?y298 (by assumption) ?_
        case y298 => (intro w hSw; unfold HeldRn at hSw; go_simp; (try with_reducible rfl); (try omega))
        simp only [List.setIfInBounds_toArray, List.set_cons_zero, List.set_cons_succ]
        refine held_take (v := ?v301) 5 rfl (by kernel_rfl) (by kernel_rfl) (by kernel_rfl) (fun _ _ _ h => h) (by rfl) ?y301 (by assumption) ?_
        case y301 => (intro w hSw; unfold HeldRn at hSw; go_simp; (try with_reducible rfl); (try omega))
        simp only [List.setIfInBounds_toArray, List.set_cons_zero, List.set_cons_succ]
        refine held_take (v := .bool false) 6 rfl (by kernel_rfl) (by kernel_rfl) (by kernel_rfl) (fun _ _ _ h => h) (by rfl) (fun W hSw => (by go_simp)) (by assumption) ?_
        simp only [List.setIfInBounds_toArray, List.set_cons_zero, List.set_cons_succ]
        refine held_take (v := ?v306) 7 rfl (by kernel_rfl) (by kernel_rfl) (by kernel_rfl) (fun _ _ _ h => h) (by rfl) ?y306 (by assumption) ?_
        case y306 => (intro w hSw; unfold HeldRn at hSw; go_simp; (try with_reducible rfl); (try omega))
        simp only [List.setIfInBounds_toArray, List.set_cons_zero, List.set_cons_succ]
        refine held_take (v := ?v309) 8 rfl (by kernel_rfl) (by kernel_rfl) (by kernel_rfl) (fun _ _ _ h => h) (by rfl) ?y309 (by assumption) ?_
        case y309 => (intro w hSw; unfold HeldRn at hSw; go_simp; (try with_reducible rfl); (try omega))
        simp only [List.setIfInBounds_toArray, List.set_cons_zero, List.set_cons_succ]
        refine held_take (v := ?v312) 9 rfl (by kernel_rfl) (by kernel_rfl) (by kernel_rfl) (fun _ _ _ h => h) (by rfl) ?y312 (by assumption) ?_
        case y312 => (intro w hSw; unfold HeldRn at hSw; go_simp; (try with_reducible rfl); (try omega))
        simp only [List.setIfInBounds_toArray, List.set_cons_zero, List.set_cons_succ]
        refine held_take (v := ?v315) 10 rfl (by kernel_rfl) (by kernel_rfl) (by kernel_rfl) (fun _ _ _ h => h) (by rfl) ?y315 (by assumption) ?_
        case y315 => (intro w hSw; unfold HeldRn at hSw; go_simp; (try with_reducible rfl); (try omega))
        simp only [List.setIfInBounds_toArray, List.set_cons_zero, List.set_cons_succ]
        refine held_take (v := .bool false) 11 rfl (by kernel_rfl) (by kernel_rfl) (by kernel_rfl) (fun _ _ _ h => h) (by rfl) (fun W hSw => (by go_simp)) (by assumption) ?_
        simp only [List.setIfInBounds_toArray, List.set_cons_zero, List.set_cons_succ]
        refine held_take (v := ?v320) 12 rfl (by kernel_rfl) (by kernel_rfl) (by kernel_rfl) (fun _ _ _ h => h) (by rfl) ?y320 (by assumption) ?_
        case y320 => (intro w hSw; unfold HeldRn at hSw; go_simp; (try with_reducible rfl); (try omega))
        simp only [List.setIfInBounds_toArray, List.set_cons_zero, List.set_cons_succ]
        refine held_take (v := ?v323) 13 rfl (by kernel_rfl) (by kernel_rfl) (by kernel_rfl) (fun _ _ _ h => h) (by rfl) ?y323 (by assumption) ?_
        case y323 => (intro w hSw; unfold HeldRn at hSw; go_simp; (try with_reducible rfl); (try omega))
        simp only [List.setIfInBounds_toArray, List.set_cons_zero, List.set_cons_succ]
        refine held_take (v := ?v326) 14 rfl (by kernel_rfl) (by kernel_rfl) (by kernel_rfl) (fun _ _ _ h => h) (by rfl) ?y326 (by assumption) ?_
        case y326 => (intro w hSw; unfold HeldRn at hSw; go_simp; (try with_reducible rfl); (try omega))
        simp only [List.setIfInBounds_toArray, List.set_cons_zero, List.set_cons_succ]
        refine held_take (v := x.1.val) 15 rfl (by kernel_rfl) (by kernel_rfl) (by kernel_rfl) (fun _ _ _ h => h) (by rfl) (fun W hSw => exec_load_any _ (.tmp 122) rfl bX 0 x.1.row _ rfl hSw.2.1 Try.underlying32 rfl (pf_infoC HX16.out)) (by assumption) ?_
        simp only [List.setIfInBounds_toArray, List.set_cons_zero, List.set_cons_succ]
        refine held_take (v := ?v331) 16 rfl (by kernel_rfl) (by kernel_rfl) (by kernel_rfl) (fun _ _ _ h => h) (by rfl) ?y331 (by assumption) ?_
        case y331 => (intro w hSw; unfold HeldRn at hSw; go_simp; (try with_reducible rfl); (try omega))
        simp only [List.setIfInBounds_toArray, List.set_cons_zero, List.set_cons_succ]
        refine held_take (v := x.1.val) 17 rfl (by kernel_rfl) (by kernel_rfl) (by kernel_rfl) (fun _ _ _ h => h) (by rfl) (fun W hSw => exec_load_any _ (.tmp 124) rfl bY 0 x.1.row _ rfl hSw.2.2.1 Try.underlying32 rfl (pf_infoC HX16.out)) (by assumption) ?_
        simp only [List.setIfInBounds_toArray, List.set_cons_zero, List.set_cons_succ]
        refine held_take (v := .bool false) 18 rfl (by kernel_rfl) (by kernel_rfl) (by kernel_rfl) (fun _ _ _ h => h) (by rfl) (fun W hSw => (exec_neq_pfx 123 125 _ rfl x.1 x.1 HX16.out HX16.out rfl rfl).trans (by rw [eqP_self]; rfl)) (by assumption) ?_
        simp only [List.setIfInBounds_toArray, List.set_cons_zero, List.set_cons_succ]
        refine held_take (v := ?v338) 19 rfl (by kernel_rfl) (by kernel_rfl) (by kernel_rfl) (fun _ _ _ h => h) (by rfl) ?y338 (by assumption) ?_
        case y338 => (intro w hSw; unfold HeldRn at hSw; go_simp; (try with_reducible rfl); (try omega))
        simp only [List.setIfInBounds_toArray, List.set_cons_zero, List.set_cons_succ]
        refine held_take (v := ?v341) 20 rfl (by kernel_rfl) (by kernel_rfl) (by kernel_rfl) (fun _ _ _ h => h) (by rfl) ?y341 (by assumption) ?_
        case y341 => (intro w hSw; unfold HeldRn at hSw; go_simp; (try with_reducible rfl); (try omega))
        simp only [List.setIfInBounds_toArray, List.set_cons_zero, List.set_cons_succ]
        refine held_take (v := ?v344) 21 rfl (by kernel_rfl) (by kernel_rfl) (by kernel_rfl) (fun _ _ _ h => h) (by rfl) ?y344 (by assumption) ?_
        case y344 => (intro w hSw; unfold HeldRn at hSw; go_simp; (try with_reducible rfl); (try omega))
        simp only [List.setIfInBounds_toArray, List.set_cons_zero, List.set_cons_succ]
        refine held_take (v := ?v347) 22 rfl (by kernel_rfl) (by kernel_rfl) (by kernel_rfl) (fun _ _ _ h => h) (by rfl) ?y347 (by assumption) ?_
        case y347 => (intro w hSw; unfold HeldRn at hSw; go_simp; (try with_reducible rfl); (try omega))
        simp only [List.setIfInBounds_toArray, List.set_cons_zero, List.set_cons_succ]
        refine held_take (v := ?v350) 23 rfl (by kernel_rfl) (by kernel_rfl) (by kernel_rfl) (fun _ _ _ h => h) (by rfl) ?y350 (by assumption) ?_
        case y350 => (intro w hSw; unfold HeldRn at hSw; go_simp; (try with_reducible rfl); (try omega))
        simp only [List.setIfInBounds_toArray, List.set_cons_zero, List.set_cons_succ]
        refine held_take (v := ?v353) 24 rfl (by kernel_rfl) (by kernel_rfl) (by kernel_rfl) (fun _ _ _ h => h) (by rfl) ?y353 (by assumption) ?_
        case y353 => (intro w hSw; unfold HeldRn at hSw; go_simp; (try with_reducible rfl); (try omega))
        simp only [List.setIfInBounds_toArray, List.set_cons_zero, List.set_cons_succ]
        refine held_take (v := .bool false) 25 rfl (by kernel_rfl) (by kernel_rfl) (by kernel_rfl) (fun _ _ _ h => h) (by rfl) (fun W hSw => (by go_simp)) (by assumption) ?_
        simp only [List.setIfInBounds_toArray, List.set_cons_zero, List.set_cons_succ]
        refine held_take (v := ?v358) 26 rfl (by kernel_rfl) (by kernel_rfl) (by kernel_rfl) (fun _ _ _ h => h) (by rfl) ?y358 (by assumption) ?_
        case y358 => (intro w hSw; unfold HeldRn at hSw; go_simp; (try with_reducible rfl); (try omega))
        simp only [List.setIfInBounds_toArray, List.set_cons_zero, List.set_cons_succ]
        refine held_take (v := ?v361) 27 rfl (by kernel_rfl) (by kernel_rfl) (by kernel_rfl) (fun _ _ _ h => h) (by rfl) ?y361 (by assumption) ?_
        case y361 => (intro w hSw; unfold HeldRn at hSw; go_simp; (try with_reducible rfl); (try omega))
        simp only [List.setIfInBounds_toArray, List.set_cons_zero, List.set_cons_succ]
        refine held_take (v := ?v364) 28 rfl (by kernel_rfl) (by kernel_rfl) (by kernel_rfl) (fun _ _ _ h => h) (by rfl) ?y364 (by assumption) ?_
        case y364 => (intro w hSw; unfold HeldRn at hSw; go_simp; (try with_reducible rfl); (try omega))
        simp only [List.setIfInBounds_toArray, List.set_cons_zero, List.set_cons_succ]
        refine held_take (v := ?v367) 29 rfl (by kernel_rfl) (by kernel_rfl) (by kernel_rfl) (fun _ _ _ h => h) (by rfl) ?y367 (by assumption) ?_
        case y367 => (intro w hSw; unfold HeldRn at hSw; go_simp; (try with_reducible rfl); (try omega))
        simp only [List.setIfInBounds_toArray, List.set_cons_zero, List.set_cons_succ]
        refine held_take (v := .bool false) 30 rfl (by kernel_rfl) (by kernel_rfl) (by kernel_rfl) (fun _ _ _ h => h) (by rfl) (fun W hSw => (by go_simp)) (by assumption) ?_
        simp only [List.setIfInBounds_toArray, List.set_cons_zero, List.set_cons_succ]
        refine held_take (v := ?v372) 31 rfl (by kernel_rfl) (by kernel_rfl) (by kernel_rfl) (fun _ _ _ h => h) (by rfl) ?y372 (by assumption) ?_
        case y372 => (intro w hSw; unfold HeldRn at hSw; go_simp; (try with_reducible rfl); (try omega))
        simp only [List.setIfInBounds_toArray, List.set_cons_zero, List.set_cons_succ]
        refine held_take (v := ?v375) 32 rfl (by kernel_rfl) (by kernel_rfl) (by kernel_rfl) (fun _ _ _ h => h) (by rfl) ?y375 (by assumption) ?_
        case y375 => (intro w hSw; unfold HeldRn at hSw; go_simp; (try with_reducible rfl); (try omega))
        simp only [List.setIfInBounds_toArray, List.set_cons_zero, List.set_cons_succ]
        refine held_take (v := ?v378) 33 rfl (by kernel_rfl) (by kernel_rfl) (by kernel_rfl) (fun _ _ _ h => h) (by rfl) ?y378 (by assumption) ?_
        case y378 => (intro w hSw; unfold HeldRn at hSw; go_simp; (try with_reducible rfl); (try omega))
        simp only [List.setIfInBounds_toArray, List.set_cons_zero, List.set_cons_succ]
        refine held_take (v := ?v381) 35 rfl (by kernel_rfl) (by kernel_rfl) (by kernel_rfl) (fun _ _ _ h => h) (by rfl) ?y381 (by assumption) ?_
        case y381 => (intro w hSw; unfold HeldRn at hSw; go_simp; (try with_reducible rfl); (try omega))
        simp only [List.setIfInBounds_toArray, List.set_cons_zero, List.set_cons_succ]
        refine held_take (v := ?v384) 36 rfl (by kernel_rfl) (by kernel_rfl) (by kernel_rfl) (fun _ _ _ h => h) (by rfl) ?y384 (by assumption) ?_
        case y384 => (intro w hSw; unfold HeldRn at hSw; go_simp; (try with_reducible rfl); (try omega))
        simp only [List.setIfInBounds_toArray, List.set_cons_zero, List.set_cons_succ]
        refine held_take (v := ?v387) 37 rfl (by kernel_rfl) (by kernel_rfl) (by kernel_rfl) (fun _ _ _ h => h) (by rfl) ?y387 (by assumption) ?_
        case y387 => (intro w hSw; unfold HeldRn at hSw; go_simp; (try with_reducible rfl); (try omega))
        simp only [List.setIfInBounds_toArray, List.set_cons_zero, List.set_cons_succ]
        refine held_one 34 rfl (by kernel_rfl) (by rfl) (fun K hK => ?_)
        go_simp
        refine (HLEN.out _ HB14.out.drew).mono ?_
        rintro e w15 ⟨rfl, rfl⟩
        refine hK.out _ _ hHeld (fun _ => ?_)
        clear hK K
        refine held_take (v := .bool false) 38 rfl (by kernel_rfl) (by kernel_rfl) (by kernel_rfl) (fun _ _ _ h => h) (by rfl) (fun W hSw => (by go_simp)) (by assumption) ?_
        simp only [List.setIfInBounds_toArray, List.set_cons_zero, List.set_cons_succ]
        refine held_take (v := ?v398) 39 rfl (by kernel_rfl) (by kernel_rfl) (by kernel_rfl) (fun _ _ _ h => h) (by rfl) ?y398 (by assumption) ?_
        case y398 => (intro w hSw; unfold HeldRn at hSw; go_simp; (try with_reducible rfl); (try omega))
        simp only [List.setIfInBounds_toArray, List.set_cons_zero, List.set_cons_succ]
        refine wpAnyH_done (by kernel_rfl) ?_ _
        refine NoPanic.normal ?_
        have HZF := Lib.hid (HZE.out.up (Below.refl _ _).drew)
        clear hHeld hH HZE HB14 HLEN
        generalize w14.drew = w16 at *
        go_wp2
        go_roundw
        case rel => exact ⟨i + 1, L1, a1, _, cap1, by omega, by go_num, by omega, by rw [show 1 + 150 * (i + 1) = 1 + 150 * i + 150 by omega]; exact HZF.out⟩
        case measure => simp [intOf]; omega
      · by_cases hk1 : s.k = 1
        · have hE : doE s.k is six2 room2 L s.p = rdelE is six2 L s.p := by unfold doE; rw [if_neg hk0, if_pos hk1]
          have hL : doL s.k is six2 room2 L s.p s.v = rdelL is six2 L s.p := by unfold doL; rw [if_neg hk0, if_pos hk1]
          have HDE := Lib.hid (HZb.out.del s.p H16.out (by omega))
          rw [← hE, ← hL] at HDE
          have HK := Lib.hid hk1
          clear hE hL hk0 hk1
          generalize doE s.k is six2 room2 L s.p = E at *
          generalize doL s.k is six2 room2 L s.p s.v = L1 at *
          have hkk := HK.out
          generalize s.k = sk at *
          subst hkk
          go_wp2_with (first
            | (refine plV rfl s.p.val (exec_load_any _ (.tmp 63) rfl bS 1 s.p.row _ rfl RP.out Try.underlying32 rfl (pf_infoC H16.out)) ?_)
            | (go_at_call 9; refine HDE.out.mono ?_; rintro e w5 ⟨rfl, z5, k5⟩; refine Hid.out ?_))
          refine Lib.hid ?_
          clear HDE
          have x5 := k5 _ _ _ rfl HXb.out
          clear k5
          have R1 := Lib.hid (rangeAll z5.ref)
          have R2 := Lib.hid (x5.range 1 s.p.row st_pre)
          have d0 : w5.cell? ⟨bS, 0, none⟩ = some (.int .i64 1) := by rw [x5.cell]; exact HC0.out
          have d19 : w5.cell? ⟨bS, 19, none⟩ = some (.int .i64 s.v) := by rw [x5.cell]; exact st_val H16.out
          have HD5 := Lib.hid (HDO.out w5 z5.lst)
          have HZ5 := Lib.hid z5
          have HX5 := Lib.hid x5
          clear z5 x5 RP HDO HZb HXb HC0 c0 c19
          go_wp2_with (first
            | (refine plV rfl (tV is six2 room2 (.slice a n cap)) (exec_load_any _ (.tmp 9) rfl bT 0 (tR is six2 room2 (.slice a n cap)) _ rfl R1.out Try.underlying28 rfl t_info) ?_)
            | (refine plV rfl s.p.val (exec_load_any _ (.tmp 70) rfl bS 1 s.p.row _ rfl R2.out Try.underlying32 rfl (pf_infoC H16.out)) ?_)
            | (go_at_call 10; refine HD5.out.mono ?_; rintro e w6 ⟨⟨a1, n1, cap1, rfl, l6, d6⟩, b6⟩; refine Hid.out ?_))
          refine Lib.hid ?_
          rw [show tV is six2 room2 (.slice a1 n1 cap1) = .agg (tR is six2 room2 (.slice a1 n1 cap1)).toArray from rfl]
          have hbA : Below w6.heap.size w6 (w6.alloc (.cells (tR is six2 room2 (.slice a1 n1 cap1)).toArray 28)) := (Below.refl _ _).alloc (Nat.le_refl _) _
          have hb7 := below_up b6 hbA b6.size
          have st7 := HZ5.out.settle hb7 (l6.below hbA) (by first | exact d6 | exact d6.imp (fun h => ⟨h.1, rfl⟩) id)
          have x8 := st7.2 bS _ _ rfl hbTne HX5.out
          have z8 := st7.1
          have R7 := Lib.hid (rangeAll (Bx.new w6 28 (tR is six2 room2 (.slice a1 n1 cap1))))
          have HR7 := Lib.hid (HZ5.out.ref.up hb7)
          have HZ8 := Lib.hid z8
          have HX8 := Lib.hid x8
          clear hbA hb7 st7 x8 z8 l6 d6 b6 HZ5 HX5 HD5 R1 R2 d0 d19
          go_wp2_with (first
            | (refine wpList_store_fresh rfl 28 (.tmp 13) (.tmp 75) rfl (tR is six2 room2 (.slice a1 n1 cap1)) _ w6.heap.size rfl rfl rfl t_info rfl (t_one _ _ _ _ rfl) ?_)
            | (refine plV rfl (tV is six2 room2 (.slice a1 n1 cap1)) (exec_load_any _ (.tmp 13) rfl w6.heap.size 0 (tR is six2 room2 (.slice a1 n1 cap1)) _ rfl R7.out Try.underlying28 rfl t_info) ?_)
            | (refine wpList_store_bx rfl 28 (.tmp 9) (.tmp 77) rfl bT (tR is six2 room2 (.slice a1 n1 cap1)) (tR is six2 room2 (.slice a n cap)) rfl rfl HR7.out t_info rfl (t_one _ _ _ _ rfl) ?_; refine Hid.out ?_))
          refine Lib.hid ?_
          clear R7 HR7
          generalize (w6.alloc (.cells (tR is six2 room2 (.slice a1 n1 cap1)).toArray 28)).setRow bT (tR is six2 room2 (.slice a1 n1 cap1)).toArray = w8 at *
          have HORD : Hid (InOrder cmpP (okP six2) L1) := by
            obtain ⟨X, h1, _⟩ := HZ8.out.tab
            exact Lib.hid h1.order
          have hx16 : ((lookT s.p.addr L1).getD it0).1.addr.length = 16 := by
            cases hl : lookT s.p.addr L1 with
            | none => rfl
            | some y => exact (HORD.out.2 y (look_mem s.p.addr _ y hl).1).2.1
          have HX16 := Lib.hid hx16
          have HQG := Lib.hid (fun W (hb : Below w8.heap.size w8 W) => qget is six2 room2 a1 n1 cap1 L1 s.p W (HZ8.out.lst.below hb) H16.out (by omega))
          have HQL := Lib.hid (fun W (hb : Below w8.heap.size w8 W) => qlook is six2 room2 a1 n1 cap1 L1 s.p.addr W six2 HORD.out (HZ8.out.lst.below hb) H16.out (by omega))
          obtain ⟨X8, hq8, _⟩ := HZ8.out.tab
          have HG := Lib.hid (getQ s.p hq8 H16.out)
          have HLK := Lib.hid (fun W (hb : Below w8.heap.size w8 W) => lookQ s.p.addr (hq8.up hb) H16.out)
          have HLEN := Lib.hid (fun W (hb : Below w8.heap.size w8 W) => lenQ (hq8.up hb))
          obtain ⟨hn1, hcap1, hcm1, _⟩ := HZ8.out.lst.shape
          subst hn1
          unfold maxLen at hcm1
          clear hx16 hq8
          generalize (getT cmpP s.p L1).getD 0 = gv at *
          generalize (getT cmpP s.p L1).isSome = gs at *
          generalize (lookT s.p.addr L1).getD it0 = x at *
          generalize (lookT s.p.addr L1).isSome = ls at *
          have RA := Lib.hid (HX8.out.range 1 s.p.row st_pre)
          go_wp2_with (first
            | (refine plV rfl s.p.val (exec_load_any _ (.tmp 80) rfl bS 1 s.p.row _ rfl RA.out Try.underlying32 rfl (pf_infoC H16.out)) ?_)
            | (go_at_call 11; refine HG.out.mono ?_; rintro e w9 ⟨rfl, b9⟩; refine Hid.out ?_))
          refine Lib.hid ?_
          have RB1 := Lib.hid (rangeAll (HZ8.out.ref.up b9))
          have RB2 := Lib.hid ((HX8.out.up b9).range 1 s.p.row st_pre)
          clear HG RA
          go_wp2_with (first
            | (refine plV rfl (tV is six2 room2 (.slice a1 (L1).length cap1)) (exec_load_any _ (.tmp 9) rfl bT 0 (tR is six2 room2 (.slice a1 (L1).length cap1)) _ rfl RB1.out Try.underlying28 rfl t_info) ?_)
            | (refine plV rfl s.p.val (exec_load_any _ (.tmp 87) rfl bS 1 s.p.row _ rfl RB2.out Try.underlying32 rfl (pf_infoC H16.out)) ?_)
            | (go_at_call 12; refine (HQG.out _ b9).mono ?_; rintro e w10 ⟨rfl, b10⟩; refine Hid.out ?_))
          refine Lib.hid ?_
          have B10 := below_up b9 b10 b9.size
          have RC := Lib.hid ((HX8.out.up B10).range 2 (byteVals s.p.addr) st_adr)
          clear RB1 RB2 HQG b9 b10
          go_wp2_with (first
            | (refine plV rfl (arrV s.p.addr) (exec_load_any _ (.tmp 95) rfl bS 2 (byteVals s.p.addr) _ rfl RC.out Try.underlying30 rfl (by rw [byteVals_length, H16.out]; exact arr16P.info)) ?_)
            | (go_at_call 13; refine (HLK.out _ B10).mono ?_; rintro e w11 ⟨rfl, b11⟩; refine Hid.out ?_))
          refine Lib.hid ?_
          have B11 := below_up B10 b11 B10.size
          have hbX : Below w11.heap.size w11 (w11.alloc (.cells (itR x.1 x.2).toArray 44)) := (Below.refl _ _).alloc (Nat.le_refl _) _
          have B12 := below_up B11 hbX B11.size
          have xb := Bx.new w11 44 (itR x.1 x.2)
          have RD1 := Lib.hid (rangeAll (HZ8.out.ref.up B12))
          have RD2 := Lib.hid ((HX8.out.up B12).range 2 (byteVals s.p.addr) st_adr)
          have HXB := Lib.hid xb
          have HB12 := Lib.hid B12
          clear RC HLK B10 b11 B11 hbX xb B12
          rw [show itV x.1 x.2 = .agg (itR x.1 x.2).toArray from rfl]
          go_wp2_with (first
            | (refine wpList_store_fresh rfl 44 (.tmp 19) (.tmp 98) rfl (itR x.1 x.2) _ w11.heap.size rfl rfl rfl (it_infoC HX16.out x.2) (by rw [it_len HX16.out]; rfl) (it_one _ _) ?_)
            | (refine plV rfl (tV is six2 room2 (.slice a1 (L1).length cap1)) (exec_load_any _ (.tmp 9) rfl bT 0 (tR is six2 room2 (.slice a1 (L1).length cap1)) _ rfl RD1.out Try.underlying28 rfl t_info) ?_)
            | (refine plV rfl (arrV s.p.addr) (exec_load_any _ (.tmp 103) rfl bS 2 (byteVals s.p.addr) _ rfl RD2.out Try.underlying30 rfl (by rw [byteVals_length, H16.out]; exact arr16P.info)) ?_)
            | (go_at_call 14; refine (HQL.out _ HB12.out).mono ?_; rintro e w13 ⟨rfl, b13⟩; refine Hid.out ?_))
          refine Lib.hid ?_
          have B13 := below_up HB12.out b13 HB12.out.size
          have hbY : Below w13.heap.size w13 (w13.alloc (.cells (itR x.1 x.2).toArray 47)) := (Below.refl _ _).alloc (Nat.le_refl _) _
          have xb14 := (HXB.out.up b13).up hbY
          have yb14 := Bx.new w13 47 (itR x.1 x.2)
          have B14 := below_up B13 hbY B13.size
          have HXB14 := Lib.hid xb14
          have HYB14 := Lib.hid yb14
          have HB14 := Lib.hid B14
          clear RD1 RD2 HQL B13 b13 hbY xb14 yb14 B14 HXB HB12
          rw [show itV x.1 x.2 = .agg (itR x.1 x.2).toArray from rfl]
          generalize w11.heap.size = bX at *
          go_wp2_with (first
            | (refine wpList_store_fresh rfl 47 (.tmp 21) (.tmp 106) rfl (itR x.1 x.2) _ w13.heap.size rfl rfl rfl (i_infoC HX16.out x.2) (by rw [it_len HX16.out]; rfl) (it_one _ _) ?_; refine Hid.out ?_))
          refine Lib.hid ?_
          generalize w13.alloc (.cells (itR x.1 x.2).toArray 47) = w14 at *
          generalize w13.heap.size = bY at *
          have hH : HeldRn bT (.slice a1 (L1).length cap1) bX bY x.1 x.2 w14.drew := by
            refine ⟨?_, HXB14.out.range 0 x.1.row it_pre, HYB14.out.range 0 x.1.row it_pre, ?_, ?_⟩
            · have := (HZ8.out.ref.up HB14.out).cell 3
              exact this.trans rfl
            · have := HXB14.out.cell 18
              exact this.trans (it_v HX16.out)
            · have := HYB14.out.cell 18
              exact this.trans (it_v HX16.out)
          have HZE := Lib.hid ((HZ8.out.up HB14.out).less (fun _ => False) (fun _ h => h.elim))
          clear HXB14 HYB14 HX8 HZ8
          go_wp2
          refine wp_region_noPanic ?_
          refine wp_region_held_drew (S := HeldRn bT (.slice a1 (L1).length cap1) bX bY x.1 x.2) (by kernel_rfl) hH (fun hHeld => ?_)
          refine held_take (v := ?v547) 0 rfl (by kernel_rfl) (by kernel_rfl) (by kernel_rfl) (fun _ _ _ h => h) (by rfl) ?y547 (by assumption) ?_
          case y547 => (intro w hSw; unfold HeldRn at hSw; go_simp; (try with_reducible rfl); (try omega))
          simp only [List.setIfInBounds_toArray, List.set_cons_zero, List.set_cons_succ]
          refine held_take (v := ?v550) 1 rfl (by kernel_rfl) (by kernel_rfl) (by kernel_rfl) (fun _ _ _ h => h) (by rfl) ?y550 (by assumption) ?_
          case y550 => (intro w hSw; unfold HeldRn at hSw; go_simp; (try with_reducible rfl); (try omega))
          simp only [List.setIfInBounds_toArray, List.set_cons_zero, List.set_cons_succ]
          refine held_take (v := .bool false) 2 rfl (by kernel_rfl) (by kernel_rfl) (by kernel_rfl) (fun _ _ _ h => h) (by rfl) (fun W hSw => (by go_simp)) (by assumption) ?_
          simp only [List.setIfInBounds_toArray, List.set_cons_zero, List.set_cons_succ]
          refine held_take (v := ?v555) 3 rfl (by kernel_rfl) (by kernel_rfl) (by kernel_rfl) (fun _ _ _ h => h) (by rfl) ?y555 (by assumption) ?_
          case y555 => (intro w hSw; unfold HeldRn at hSw; go_simp; (try with_reducible rfl); (try omega))
          simp only [List.setIfInBounds_toArray, List.set_cons_zero, List.set_cons_succ]
          refine held_take (v := ?v558) 4 rfl (by kernel_rfl) (by kernel_rfl) (by kernel_rfl) (fun _ _ _ h => h) (by rfl) ?y558 (by assumption) ?_
          case y558 => (intro w hSw; unfold HeldRn at hSw; go_simp; (try with_reducible rfl); (try omega))
          simp only [List.setIfInBounds_toArray, List.set_cons_zero, List.set_cons_succ]
          refine held_take (v := ?v561) 5 rfl (by kernel_rfl) (by kernel_rfl) (by kernel_rfl) (fun _ _ _ h => h) (by rfl) ?y561 (by assumption) ?_
          case y561 => (intro w hSw; unfold HeldRn at hSw; go_simp; (try with_reducible rfl); (try omega))
          simp only [List.setIfInBounds_toArray, List.set_cons_zero, List.set_cons_succ]
          refine held_take (v := .bool false) 6 rfl (by kernel_rfl) (by kernel_rfl) (by kernel_rfl) (fun _ _ _ h => h) (by rfl) (fun W hSw => (by go_simp)) (by assumption) ?_
          simp only [List.setIfInBounds_toArray, List.set_cons_zero, List.set_cons_succ]
          refine held_take (v := ?v566) 7 rfl (by kernel_rfl) (by kernel_rfl) (by kernel_rfl) (fun _ _ _ h => h) (by rfl) ?y566 (by assumption) ?_
          case y566 => (intro w hSw; unfold HeldRn at hSw; go_simp; (try with_reducible rfl); (try omega))
          simp only [List.setIfInBounds_toArray, List.set_cons_zero, List.set_cons_succ]
          refine held_take (v := ?v569) 8 rfl (by kernel_rfl) (by kernel_rfl) (by kernel_rfl) (fun _ _ _ h => h) (by rfl) ?y569 (by assumption) ?_
          case y569 => (intro w hSw; unfold HeldRn at hSw; go_simp; (try with_reducible rfl); (try omega))
          simp only [List.setIfInBounds_toArray, List.set_cons_zero, List.set_cons_succ]
          refine held_take (v := ?v572) 9 rfl (by kernel_rfl) (by kernel_rfl) (by kernel_rfl) (fun _ _ _ h => h) (by rfl) ?y572 (by assumption) ?_
          case y572 => (intro w hSw; unfold HeldRn at hSw; go_simp; (try with_reducible rfl); (try omega))
          simp only [List.setIfInBounds_toArray, List.set_cons_zero, List.set_cons_succ]
          refine held_take (v := ?v575) 10 rfl (by kernel_rfl) (by kernel_rfl) (by kernel_rfl) (fun _ _ _ h => h) (by rfl) ?y575 (by assumption) ?_
          case y575 => (intro w hSw; unfold HeldRn at hSw; go_simp; (try with_reducible rfl); (try omega))
          simp only [List.setIfInBounds_toArray, List.set_cons_zero, List.set_cons_succ]
          refine held_take (v := .bool false) 11 rfl (by kernel_rfl) (by kernel_rfl) (by kernel_rfl) (fun _ _ _ h => h) (by rfl) (fun W hSw => (by go_simp)) (by assumption) ?_
          simp only [List.setIfInBounds_toArray, List.set_cons_zero, List.set_cons_succ]
          refine held_take (v := ?v580) 12 rfl (by kernel_rfl) (by kernel_rfl) (by kernel_rfl) (fun _ _ _ h => h) (by rfl) ?y580 (by assumption) ?_
          case y580 => (intro w hSw; unfold HeldRn at hSw; go_simp; (try with_reducible rfl); (try omega))
          simp only [List.setIfInBounds_toArray, List.set_cons_zero, List.set_cons_succ]
          refine held_take (v := ?v583) 13 rfl (by kernel_rfl) (by kernel_rfl) (by kernel_rfl) (fun _ _ _ h => h) (by rfl) ?y583 (by assumption) ?_
          case y583 => (intro w hSw; unfold HeldRn at hSw; go_simp; (try with_reducible rfl); (try omega))
          simp only [List.setIfInBounds_toArray, List.set_cons_zero, List.set_cons_succ]
          refine held_take (v := ?v586) 14 rfl (by kernel_rfl) (by kernel_rfl) (by kernel_rfl) (fun _ _ _ h => h) (by rfl) ?y586 (by assumption) ?_
          case y586 => (intro w hSw; unfold HeldRn at hSw; go_simp; (try with_reducible rfl); (try omega))
          simp only [List.setIfInBounds_toArray, List.set_cons_zero, List.set_cons_succ]
          refine held_take (v := x.1.val) 15 rfl (by kernel_rfl) (by kernel_rfl) (by kernel_rfl) (fun _ _ _ h => h) (by rfl) (fun W hSw => exec_load_any _ (.tmp 122) rfl bX 0 x.1.row _ rfl hSw.2.1 Try.underlying32 rfl (pf_infoC HX16.out)) (by assumption) ?_
          simp only [List.setIfInBounds_toArray, List.set_cons_zero, List.set_cons_succ]
          refine held_take (v := ?v591) 16 rfl (by kernel_rfl) (by kernel_rfl) (by kernel_rfl) (fun _ _ _ h => h) (by rfl) ?y591 (by assumption) ?_
          case y591 => (intro w hSw; unfold HeldRn at hSw; go_simp; (try with_reducible rfl); (try omega))
          simp only [List.setIfInBounds_toArray, List.set_cons_zero, List.set_cons_succ]
          refine held_take (v := x.1.val) 17 rfl (by kernel_rfl) (by kernel_rfl) (by kernel_rfl) (fun _ _ _ h => h) (by rfl) (fun W hSw => exec_load_any _ (.tmp 124) rfl bY 0 x.1.row _ rfl hSw.2.2.1 Try.underlying32 rfl (pf_infoC HX16.out)) (by assumption) ?_
          simp only [List.setIfInBounds_toArray, List.set_cons_zero, List.set_cons_succ]
          refine held_take (v := .bool false) 18 rfl (by kernel_rfl) (by kernel_rfl) (by kernel_rfl) (fun _ _ _ h => h) (by rfl) (fun W hSw => (exec_neq_pfx 123 125 _ rfl x.1 x.1 HX16.out HX16.out rfl rfl).trans (by rw [eqP_self]; rfl)) (by assumption) ?_
          simp only [List.setIfInBounds_toArray, List.set_cons_zero, List.set_cons_succ]
          refine held_take (v := ?v598) 19 rfl (by kernel_rfl) (by kernel_rfl) (by kernel_rfl) (fun _ _ _ h => h) (by rfl) ?y598 (by assumption) ?_
          case y598 => (intro w hSw; unfold HeldRn at hSw; go_simp; (try with_reducible rfl); (try omega))
          simp only [List.setIfInBounds_toArray, List.set_cons_zero, List.set_cons_succ]
          refine held_take (v := ?v601) 20 rfl (by kernel_rfl) (by kernel_rfl) (by kernel_rfl) (fun _ _ _ h => h) (by rfl) ?y601 (by assumption) ?_
          case y601 => (intro w hSw; unfold HeldRn at hSw; go_simp; (try with_reducible rfl); (try omega))
          simp only [List.setIfInBounds_toArray, List.set_cons_zero, List.set_cons_succ]
          refine held_take (v := ?v604) 21 rfl (by kernel_rfl) (by kernel_rfl) (by kernel_rfl) (fun _ _ _ h => h) (by rfl) ?y604 (by assumption) ?_
          case y604 => (intro w hSw; unfold HeldRn at hSw; go_simp; (try with_reducible rfl); (try omega))
          simp only [List.setIfInBounds_toArray, List.set_cons_zero, List.set_cons_succ]
          refine held_take (v := ?v607) 22 rfl (by kernel_rfl) (by kernel_rfl) (by kernel_rfl) (fun _ _ _ h => h) (by rfl) ?y607 (by assumption) ?_
          case y607 => (intro w hSw; unfold HeldRn at hSw; go_simp; (try with_reducible rfl); (try omega))
          simp only [List.setIfInBounds_toArray, List.set_cons_zero, List.set_cons_succ]
          refine held_take (v := ?v610) 23 rfl (by kernel_rfl) (by kernel_rfl) (by kernel_rfl) (fun _ _ _ h => h) (by rfl) ?y610 (by assumption) ?_
          case y610 => (intro w hSw; unfold HeldRn at hSw; go_simp; (try with_reducible rfl); (try omega))
          simp only [List.setIfInBounds_toArray, List.set_cons_zero, List.set_cons_succ]
          refine held_take (v := ?v613) 24 rfl (by kernel_rfl) (by kernel_rfl) (by kernel_rfl) (fun _ _ _ h => h) (by rfl) ?y613 (by assumption) ?_
          case y613 => (intro w hSw; unfold HeldRn at hSw; go_simp; (try with_reducible rfl); (try omega))
          simp only [List.setIfInBounds_toArray, List.set_cons_zero, List.set_cons_succ]
          refine held_take (v := .bool false) 25 rfl (by kernel_rfl) (by kernel_rfl) (by kernel_rfl) (fun _ _ _ h => h) (by rfl) (fun W hSw => (by go_simp)) (by assumption) ?_
          simp only [List.setIfInBounds_toArray, List.set_cons_zero, List.set_cons_succ]
          refine held_take (v := ?v618) 26 rfl (by kernel_rfl) (by kernel_rfl) (by kernel_rfl) (fun _ _ _ h => h) (by rfl) ?y618 (by assumption) ?_
          case y618 => (intro w hSw; unfold HeldRn at hSw; go_simp; (try with_reducible rfl); (try omega))
          simp only [List.setIfInBounds_toArray, List.set_cons_zero, List.set_cons_succ]
          refine held_take (v := ?v621) 27 rfl (by kernel_rfl) (by kernel_rfl) (by kernel_rfl) (fun _ _ _ h => h) (by rfl) ?y621 (by assumption) ?_
          case y621 => (intro w hSw; unfold HeldRn at hSw; go_simp; (try with_reducible rfl); (try omega))
          simp only [List.setIfInBounds_toArray, List.set_cons_zero, List.set_cons_succ]
          refine held_take (v := ?v624) 28 rfl (by kernel_rfl) (by kernel_rfl) (by kernel_rfl) (fun _ _ _ h => h) (by rfl) ?y624 (by assumption) ?_
          case y624 => (intro w hSw; unfold HeldRn at hSw; go_simp; (try with_reducible rfl); (try omega))
          simp only [List.setIfInBounds_toArray, List.set_cons_zero, List.set_cons_succ]
          refine held_take (v := ?v627) 29 rfl (by kernel_rfl) (by kernel_rfl) (by kernel_rfl) (fun _ _ _ h => h) (by rfl) ?y627 (by assumption) ?_
          case y627 => (intro w hSw; unfold HeldRn at hSw; go_simp; (try with_reducible rfl); (try omega))
          simp only [List.setIfInBounds_toArray, List.set_cons_zero, List.set_cons_succ]
          refine held_take (v := .bool false) 30 rfl (by kernel_rfl) (by kernel_rfl) (by kernel_rfl) (fun _ _ _ h => h) (by rfl) (fun W hSw => (by go_simp)) (by assumption) ?_
          simp only [List.setIfInBounds_toArray, List.set_cons_zero, List.set_cons_succ]
          refine held_take (v := ?v632) 31 rfl (by kernel_rfl) (by kernel_rfl) (by kernel_rfl) (fun _ _ _ h => h) (by rfl) ?y632 (by assumption) ?_
          case y632 => (intro w hSw; unfold HeldRn at hSw; go_simp; (try with_reducible rfl); (try omega))
          simp only [List.setIfInBounds_toArray, List.set_cons_zero, List.set_cons_succ]
          refine held_take (v := ?v635) 32 rfl (by kernel_rfl) (by kernel_rfl) (by kernel_rfl) (fun _ _ _ h => h) (by rfl) ?y635 (by assumption) ?_
          case y635 => (intro w hSw; unfold HeldRn at hSw; go_simp; (try with_reducible rfl); (try omega))
          simp only [List.setIfInBounds_toArray, List.set_cons_zero, List.set_cons_succ]
          refine held_take (v := ?v638) 33 rfl (by kernel_rfl) (by kernel_rfl) (by kernel_rfl) (fun _ _ _ h => h) (by rfl) ?y638 (by assumption) ?_
          case y638 => (intro w hSw; unfold HeldRn at hSw; go_simp; (try with_reducible rfl); (try omega))
          simp only [List.setIfInBounds_toArray, List.set_cons_zero, List.set_cons_succ]
          refine held_take (v := ?v641) 35 rfl (by kernel_rfl) (by kernel_rfl) (by kernel_rfl) (fun _ _ _ h => h) (by rfl) ?y641 (by assumption) ?_
          case y641 => (intro w hSw; unfold HeldRn at hSw; go_simp; (try with_reducible rfl); (try omega))
          simp only [List.setIfInBounds_toArray, List.set_cons_zero, List.set_cons_succ]
          refine held_take (v := ?v644) 36 rfl (by kernel_rfl) (by kernel_rfl) (by kernel_rfl) (fun _ _ _ h => h) (by rfl) ?y644 (by assumption) ?_
          case y644 => (intro w hSw; unfold HeldRn at hSw; go_simp; (try with_reducible rfl); (try omega))
          simp only [List.setIfInBounds_toArray, List.set_cons_zero, List.set_cons_succ]
          refine held_take (v := ?v647) 37 rfl (by kernel_rfl) (by kernel_rfl) (by kernel_rfl) (fun _ _ _ h => h) (by rfl) ?y647 (by assumption) ?_
          case y647 => (intro w hSw; unfold HeldRn at hSw; go_simp; (try with_reducible rfl); (try omega))
          simp only [List.setIfInBounds_toArray, List.set_cons_zero, List.set_cons_succ]
          refine held_one 34 rfl (by kernel_rfl) (by rfl) (fun K hK => ?_)
          go_simp
          refine (HLEN.out _ HB14.out.drew).mono ?_
          rintro e w15 ⟨rfl, rfl⟩
          refine hK.out _ _ hHeld (fun _ => ?_)
          clear hK K
          refine held_take (v := .bool false) 38 rfl (by kernel_rfl) (by kernel_rfl) (by kernel_rfl) (fun _ _ _ h => h) (by rfl) (fun W hSw => (by go_simp)) (by assumption) ?_
          simp only [List.setIfInBounds_toArray, List.set_cons_zero, List.set_cons_succ]
          refine held_take (v := ?v658) 39 rfl (by kernel_rfl) (by kernel_rfl) (by kernel_rfl) (fun _ _ _ h => h) (by rfl) ?y658 (by assumption) ?_
          case y658 => (intro w hSw; unfold HeldRn at hSw; go_simp; (try with_reducible rfl); (try omega))
          simp only [List.setIfInBounds_toArray, List.set_cons_zero, List.set_cons_succ]
          refine wpAnyH_done (by kernel_rfl) ?_ _
          refine NoPanic.normal ?_
          have HZF := Lib.hid (HZE.out.up (Below.refl _ _).drew)
          clear hHeld hH HZE HB14 HLEN
          generalize w14.drew = w16 at *
          go_wp2
          go_roundw
          case rel => exact ⟨i + 1, L1, a1, _, cap1, by omega, by go_num, by omega, by rw [show 1 + 150 * (i + 1) = 1 + 150 * i + 150 by omega]; exact HZF.out⟩
          case measure => simp [intOf]; omega
        · have hE : doE s.k is six2 room2 L s.p = 0 := by unfold doE; rw [if_neg hk0, if_neg hk1]
          have hL : doL s.k is six2 room2 L s.p s.v = L := by unfold doL; rw [if_neg hk0, if_neg hk1]
          have hq0 : (s.k == 0) = false := beq_eq_false_iff_ne.2 hk0
          have hq1 : (s.k == 1) = false := beq_eq_false_iff_ne.2 hk1
          rw [hE, hL] at HDO
          rw [hL] at hdl
          have z5 := HZb.out.more (show 1 + 150 * i ≤ 1 + 150 * i + 150 by omega)
          have x5 := HXb.out
          clear hE hL hk0 hk1
          generalize s.k = sk at *
          generalize wb = w5 at *
          have R1 := Lib.hid (rangeAll z5.ref)
          have R2 := Lib.hid (x5.range 1 s.p.row st_pre)
          have d0 : w5.cell? ⟨bS, 0, none⟩ = some (.int .i64 sk) := by rw [x5.cell]; exact HC0.out
          have d19 : w5.cell? ⟨bS, 19, none⟩ = some (.int .i64 s.v) := by rw [x5.cell]; exact st_val H16.out
          have HD5 := Lib.hid (HDO.out w5 z5.lst)
          have HZ5 := Lib.hid z5
          have HX5 := Lib.hid x5
          clear z5 x5 RP HDO HZb HXb HC0 c0 c19
          go_wp2_with (first
            | (refine plV rfl (tV is six2 room2 (.slice a n cap)) (exec_load_any _ (.tmp 9) rfl bT 0 (tR is six2 room2 (.slice a n cap)) _ rfl R1.out Try.underlying28 rfl t_info) ?_)
            | (refine plV rfl s.p.val (exec_load_any _ (.tmp 70) rfl bS 1 s.p.row _ rfl R2.out Try.underlying32 rfl (pf_infoC H16.out)) ?_)
            | (go_at_call 10; refine HD5.out.mono ?_; rintro e w6 ⟨⟨a1, n1, cap1, rfl, l6, d6⟩, b6⟩; refine Hid.out ?_))
          refine Lib.hid ?_
          rw [show tV is six2 room2 (.slice a1 n1 cap1) = .agg (tR is six2 room2 (.slice a1 n1 cap1)).toArray from rfl]
          have hbA : Below w6.heap.size w6 (w6.alloc (.cells (tR is six2 room2 (.slice a1 n1 cap1)).toArray 28)) := (Below.refl _ _).alloc (Nat.le_refl _) _
          have hb7 := below_up b6 hbA b6.size
          have st7 := HZ5.out.settle hb7 (l6.below hbA) (by first | exact d6 | exact d6.imp (fun h => ⟨h.1, rfl⟩) id)
          have x8 := st7.2 bS _ _ rfl hbTne HX5.out
          have z8 := st7.1
          have R7 := Lib.hid (rangeAll (Bx.new w6 28 (tR is six2 room2 (.slice a1 n1 cap1))))
          have HR7 := Lib.hid (HZ5.out.ref.up hb7)
          have HZ8 := Lib.hid z8
          have HX8 := Lib.hid x8
          clear hbA hb7 st7 x8 z8 l6 d6 b6 HZ5 HX5 HD5 R1 R2 d0 d19
          go_wp2_with (first
            | (refine wpList_store_fresh rfl 28 (.tmp 13) (.tmp 75) rfl (tR is six2 room2 (.slice a1 n1 cap1)) _ w6.heap.size rfl rfl rfl t_info rfl (t_one _ _ _ _ rfl) ?_)
            | (refine plV rfl (tV is six2 room2 (.slice a1 n1 cap1)) (exec_load_any _ (.tmp 13) rfl w6.heap.size 0 (tR is six2 room2 (.slice a1 n1 cap1)) _ rfl R7.out Try.underlying28 rfl t_info) ?_)
            | (refine wpList_store_bx rfl 28 (.tmp 9) (.tmp 77) rfl bT (tR is six2 room2 (.slice a1 n1 cap1)) (tR is six2 room2 (.slice a n cap)) rfl rfl HR7.out t_info rfl (t_one _ _ _ _ rfl) ?_; refine Hid.out ?_))
          refine Lib.hid ?_
          clear R7 HR7
          generalize (w6.alloc (.cells (tR is six2 room2 (.slice a1 n1 cap1)).toArray 28)).setRow bT (tR is six2 room2 (.slice a1 n1 cap1)).toArray = w8 at *
          have HORD : Hid (InOrder cmpP (okP six2) L) := by
            obtain ⟨X, h1, _⟩ := HZ8.out.tab
            exact Lib.hid h1.order
          have hx16 : ((lookT s.p.addr L).getD it0).1.addr.length = 16 := by
            cases hl : lookT s.p.addr L with
            | none => rfl
            | some y => exact (HORD.out.2 y (look_mem s.p.addr _ y hl).1).2.1
          have HX16 := Lib.hid hx16
          have HQG := Lib.hid (fun W (hb : Below w8.heap.size w8 W) => qget is six2 room2 a1 n1 cap1 L s.p W (HZ8.out.lst.below hb) H16.out (by omega))
          have HQL := Lib.hid (fun W (hb : Below w8.heap.size w8 W) => qlook is six2 room2 a1 n1 cap1 L s.p.addr W six2 HORD.out (HZ8.out.lst.below hb) H16.out (by omega))
          obtain ⟨X8, hq8, _⟩ := HZ8.out.tab
          have HG := Lib.hid (getQ s.p hq8 H16.out)
          have HLK := Lib.hid (fun W (hb : Below w8.heap.size w8 W) => lookQ s.p.addr (hq8.up hb) H16.out)
          have HLEN := Lib.hid (fun W (hb : Below w8.heap.size w8 W) => lenQ (hq8.up hb))
          obtain ⟨hn1, hcap1, hcm1, _⟩ := HZ8.out.lst.shape
          subst hn1
          unfold maxLen at hcm1
          clear hx16 hq8
          generalize (getT cmpP s.p L).getD 0 = gv at *
          generalize (getT cmpP s.p L).isSome = gs at *
          generalize (lookT s.p.addr L).getD it0 = x at *
          generalize (lookT s.p.addr L).isSome = ls at *
          have RA := Lib.hid (HX8.out.range 1 s.p.row st_pre)
          go_wp2_with (first
            | (refine plV rfl s.p.val (exec_load_any _ (.tmp 80) rfl bS 1 s.p.row _ rfl RA.out Try.underlying32 rfl (pf_infoC H16.out)) ?_)
            | (go_at_call 11; refine HG.out.mono ?_; rintro e w9 ⟨rfl, b9⟩; refine Hid.out ?_))
          refine Lib.hid ?_
          have RB1 := Lib.hid (rangeAll (HZ8.out.ref.up b9))
          have RB2 := Lib.hid ((HX8.out.up b9).range 1 s.p.row st_pre)
          clear HG RA
          go_wp2_with (first
            | (refine plV rfl (tV is six2 room2 (.slice a1 (L).length cap1)) (exec_load_any _ (.tmp 9) rfl bT 0 (tR is six2 room2 (.slice a1 (L).length cap1)) _ rfl RB1.out Try.underlying28 rfl t_info) ?_)
            | (refine plV rfl s.p.val (exec_load_any _ (.tmp 87) rfl bS 1 s.p.row _ rfl RB2.out Try.underlying32 rfl (pf_infoC H16.out)) ?_)
            | (go_at_call 12; refine (HQG.out _ b9).mono ?_; rintro e w10 ⟨rfl, b10⟩; refine Hid.out ?_))
          refine Lib.hid ?_
          have B10 := below_up b9 b10 b9.size
          have RC := Lib.hid ((HX8.out.up B10).range 2 (byteVals s.p.addr) st_adr)
          clear RB1 RB2 HQG b9 b10
          go_wp2_with (first
            | (refine plV rfl (arrV s.p.addr) (exec_load_any _ (.tmp 95) rfl bS 2 (byteVals s.p.addr) _ rfl RC.out Try.underlying30 rfl (by rw [byteVals_length, H16.out]; exact arr16P.info)) ?_)
            | (go_at_call 13; refine (HLK.out _ B10).mono ?_; rintro e w11 ⟨rfl, b11⟩; refine Hid.out ?_))
          refine Lib.hid ?_
          have B11 := below_up B10 b11 B10.size
          have hbX : Below w11.heap.size w11 (w11.alloc (.cells (itR x.1 x.2).toArray 44)) := (Below.refl _ _).alloc (Nat.le_refl _) _
          have B12 := below_up B11 hbX B11.size
          have xb := Bx.new w11 44 (itR x.1 x.2)
          have RD1 := Lib.hid (rangeAll (HZ8.out.ref.up B12))
          have RD2 := Lib.hid ((HX8.out.up B12).range 2 (byteVals s.p.addr) st_adr)
          have HXB := Lib.hid xb
          have HB12 := Lib.hid B12
          clear RC HLK B10 b11 B11 hbX xb B12
          rw [show itV x.1 x.2 = .agg (itR x.1 x.2).toArray from rfl]
          go_wp2_with (first
            | (refine wpList_store_fresh rfl 44 (.tmp 19) (.tmp 98) rfl (itR x.1 x.2) _ w11.heap.size rfl rfl rfl (it_infoC HX16.out x.2) (by rw [it_len HX16.out]; rfl) (it_one _ _) ?_)
            | (refine plV rfl (tV is six2 room2 (.slice a1 (L).length cap1)) (exec_load_any _ (.tmp 9) rfl bT 0 (tR is six2 room2 (.slice a1 (L).length cap1)) _ rfl RD1.out Try.underlying28 rfl t_info) ?_)
            | (refine plV rfl (arrV s.p.addr) (exec_load_any _ (.tmp 103) rfl bS 2 (byteVals s.p.addr) _ rfl RD2.out Try.underlying30 rfl (by rw [byteVals_length, H16.out]; exact arr16P.info)) ?_)
            | (go_at_call 14; refine (HQL.out _ HB12.out).mono ?_; rintro e w13 ⟨rfl, b13⟩; refine Hid.out ?_))
          refine Lib.hid ?_
          have B13 := below_up HB12.out b13 HB12.out.size
          have hbY : Below w13.heap.size w13 (w13.alloc (.cells (itR x.1 x.2).toArray 47)) := (Below.refl _ _).alloc (Nat.le_refl _) _
          have xb14 := (HXB.out.up b13).up hbY
          have yb14 := Bx.new w13 47 (itR x.1 x.2)
          have B14 := below_up B13 hbY B13.size
          have HXB14 := Lib.hid xb14
          have HYB14 := Lib.hid yb14
          have HB14 := Lib.hid B14
          clear RD1 RD2 HQL B13 b13 hbY xb14 yb14 B14 HXB HB12
          rw [show itV x.1 x.2 = .agg (itR x.1 x.2).toArray from rfl]
          generalize w11.heap.size = bX at *
          go_wp2_with (first
            | (refine wpList_store_fresh rfl 47 (.tmp 21) (.tmp 106) rfl (itR x.1 x.2) _ w13.heap.size rfl rfl rfl (i_infoC HX16.out x.2) (by rw [it_len HX16.out]; rfl) (it_one _ _) ?_; refine Hid.out ?_))
          refine Lib.hid ?_
          generalize w13.alloc (.cells (itR x.1 x.2).toArray 47) = w14 at *
          generalize w13.heap.size = bY at *
          have hH : HeldRn bT (.slice a1 (L).length cap1) bX bY x.1 x.2 w14.drew := by
            refine ⟨?_, HXB14.out.range 0 x.1.row it_pre, HYB14.out.range 0 x.1.row it_pre, ?_, ?_⟩
            · have := (HZ8.out.ref.up HB14.out).cell 3
              exact this.trans rfl
            · have := HXB14.out.cell 18
              exact this.trans (it_v HX16.out)
            · have := HYB14.out.cell 18
              exact this.trans (it_v HX16.out)
          have HZE := Lib.hid ((HZ8.out.up HB14.out).less (fun _ => False) (fun _ h => h.elim))
          clear HXB14 HYB14 HX8 HZ8
          go_wp2
          refine wp_region_noPanic ?_
          refine wp_region_held_drew (S := HeldRn bT (.slice a1 (L).length cap1) bX bY x.1 x.2) (by kernel_rfl) hH (fun hHeld => ?_)
          refine held_take (v := ?v799) 0 rfl (by kernel_rfl) (by kernel_rfl) (by kernel_rfl) (fun _ _ _ h => h) (by rfl) ?y799 (by assumption) ?_
          case y799 => (intro w hSw; unfold HeldRn at hSw; go_simp; (try with_reducible rfl); (try omega))
          simp only [List.setIfInBounds_toArray, List.set_cons_zero, List.set_cons_succ]
          refine held_take (v := ?v802) 1 rfl (by kernel_rfl) (by kernel_rfl) (by kernel_rfl) (fun _ _ _ h => h) (by rfl) ?y802 (by assumption) ?_
          case y802 => (intro w hSw; unfold HeldRn at hSw; go_simp; (try with_reducible rfl); (try omega))
          simp only [List.setIfInBounds_toArray, List.set_cons_zero, List.set_cons_succ]
          refine held_take (v := .bool false) 2 rfl (by kernel_rfl) (by kernel_rfl) (by kernel_rfl) (fun _ _ _ h => h) (by rfl) (fun W hSw => (by go_simp)) (by assumption) ?_
          simp only [List.setIfInBounds_toArray, List.set_cons_zero, List.set_cons_succ]
          refine held_take (v := ?v807) 3 rfl (by kernel_rfl) (by kernel_rfl) (by kernel_rfl) (fun _ _ _ h => h) (by rfl) ?y807 (by assumption) ?_
          case y807 => (intro w hSw; unfold HeldRn at hSw; go_simp; (try with_reducible rfl); (try omega))
          simp only [List.setIfInBounds_toArray, List.set_cons_zero, List.set_cons_succ]
          refine held_take (v := ?v810) 4 rfl (by kernel_rfl) (by kernel_rfl) (by kernel_rfl) (fun _ _ _ h => h) (by rfl) ?y810 (by assumption) ?_
          case y810 => (intro w hSw; unfold HeldRn at hSw; go_simp; (try with_reducible rfl); (try omega))
          simp only [List.setIfInBounds_toArray, List.set_cons_zero, List.set_cons_succ]
          refine held_take (v := ?v813) 5 rfl (by kernel_rfl) (by kernel_rfl) (by kernel_rfl) (fun _ _ _ h => h) (by rfl) ?y813 (by assumption) ?_
          case y813 => (intro w hSw; unfold HeldRn at hSw; go_simp; (try with_reducible rfl); (try omega))
          simp only [List.setIfInBounds_toArray, List.set_cons_zero, List.set_cons_succ]
          refine held_take (v := .bool false) 6 rfl (by kernel_rfl) (by kernel_rfl) (by kernel_rfl) (fun _ _ _ h => h) (by rfl) (fun W hSw => (by go_simp)) (by assumption) ?_
          simp only [List.setIfInBounds_toArray, List.set_cons_zero, List.set_cons_succ]
          refine held_take (v := ?v818) 7 rfl (by kernel_rfl) (by kernel_rfl) (by kernel_rfl) (fun _ _ _ h => h) (by rfl) ?y818 (by assumption) ?_
          case y818 => (intro w hSw; unfold HeldRn at hSw; go_simp; (try with_reducible rfl); (try omega))
          simp only [List.setIfInBounds_toArray, List.set_cons_zero, List.set_cons_succ]
          refine held_take (v := ?v821) 8 rfl (by kernel_rfl) (by kernel_rfl) (by kernel_rfl) (fun _ _ _ h => h) (by rfl) ?y821 (by assumption) ?_
          case y821 => (intro w hSw; unfold HeldRn at hSw; go_simp; (try with_reducible rfl); (try omega))
          simp only [List.setIfInBounds_toArray, List.set_cons_zero, List.set_cons_succ]
          refine held_take (v := ?v824) 9 rfl (by kernel_rfl) (by kernel_rfl) (by kernel_rfl) (fun _ _ _ h => h) (by rfl) ?y824 (by assumption) ?_
          case y824 => (intro w hSw; unfold HeldRn at hSw; go_simp; (try with_reducible rfl); (try omega))
          simp only [List.setIfInBounds_toArray, List.set_cons_zero, List.set_cons_succ]
          refine held_take (v := ?v827) 10 rfl (by kernel_rfl) (by kernel_rfl) (by kernel_rfl) (fun _ _ _ h => h) (by rfl) ?y827 (by assumption) ?_
          case y827 => (intro w hSw; unfold HeldRn at hSw; go_simp; (try with_reducible rfl); (try omega))
          simp only [List.setIfInBounds_toArray, List.set_cons_zero, List.set_cons_succ]
          refine held_take (v := .bool false) 11 rfl (by kernel_rfl) (by kernel_rfl) (by kernel_rfl) (fun _ _ _ h => h) (by rfl) (fun W hSw => (by go_simp)) (by assumption) ?_
          simp only [List.setIfInBounds_toArray, List.set_cons_zero, List.set_cons_succ]
          refine held_take (v := ?v832) 12 rfl (by kernel_rfl) (by kernel_rfl) (by kernel_rfl) (fun _ _ _ h => h) (by rfl) ?y832 (by assumption) ?_
          case y832 => (intro w hSw; unfold HeldRn at hSw; go_simp; (try with_reducible rfl); (try omega))
          simp only [List.setIfInBounds_toArray, List.set_cons_zero, List.set_cons_succ]
          refine held_take (v := ?v835) 13 rfl (by kernel_rfl) (by kernel_rfl) (by kernel_rfl) (fun _ _ _ h => h) (by rfl) ?y835 (by assumption) ?_
          case y835 => (intro w hSw; unfold HeldRn at hSw; go_simp; (try with_reducible rfl); (try omega))
          simp only [List.setIfInBounds_toArray, List.set_cons_zero, List.set_cons_succ]
          refine held_take (v := ?v838) 14 rfl (by kernel_rfl) (by kernel_rfl) (by kernel_rfl) (fun _ _ _ h => h) (by rfl) ?y838 (by assumption) ?_
          case y838 => (intro w hSw; unfold HeldRn at hSw; go_simp; (try with_reducible rfl); (try omega))
          simp only [List.setIfInBounds_toArray, List.set_cons_zero, List.set_cons_succ]
          refine held_take (v := x.1.val) 15 rfl (by kernel_rfl) (by kernel_rfl) (by kernel_rfl) (fun _ _ _ h => h) (by rfl) (fun W hSw => exec_load_any _ (.tmp 122) rfl bX 0 x.1.row _ rfl hSw.2.1 Try.underlying32 rfl (pf_infoC HX16.out)) (by assumption) ?_
          simp only [List.setIfInBounds_toArray, List.set_cons_zero, List.set_cons_succ]
          refine held_take (v := ?v843) 16 rfl (by kernel_rfl) (by kernel_rfl) (by kernel_rfl) (fun _ _ _ h => h) (by rfl) ?y843 (by assumption) ?_
          case y843 => (intro w hSw; unfold HeldRn at hSw; go_simp; (try with_reducible rfl); (try omega))
          simp only [List.setIfInBounds_toArray, List.set_cons_zero, List.set_cons_succ]
          refine held_take (v := x.1.val) 17 rfl (by kernel_rfl) (by kernel_rfl) (by kernel_rfl) (fun _ _ _ h => h) (by rfl) (fun W hSw => exec_load_any _ (.tmp 124) rfl bY 0 x.1.row _ rfl hSw.2.2.1 Try.underlying32 rfl (pf_infoC HX16.out)) (by assumption) ?_
          simp only [List.setIfInBounds_toArray, List.set_cons_zero, List.set_cons_succ]
          refine held_take (v := .bool false) 18 rfl (by kernel_rfl) (by kernel_rfl) (by kernel_rfl) (fun _ _ _ h => h) (by rfl) (fun W hSw => (exec_neq_pfx 123 125 _ rfl x.1 x.1 HX16.out HX16.out rfl rfl).trans (by rw [eqP_self]; rfl)) (by assumption) ?_
          simp only [List.setIfInBounds_toArray, List.set_cons_zero, List.set_cons_succ]
          refine held_take (v := ?v850) 19 rfl (by kernel_rfl) (by kernel_rfl) (by kernel_rfl) (fun _ _ _ h => h) (by rfl) ?y850 (by assumption) ?_
          case y850 => (intro w hSw; unfold HeldRn at hSw; go_simp; (try with_reducible rfl); (try omega))
          simp only [List.setIfInBounds_toArray, List.set_cons_zero, List.set_cons_succ]
          refine held_take (v := ?v853) 20 rfl (by kernel_rfl) (by kernel_rfl) (by kernel_rfl) (fun _ _ _ h => h) (by rfl) ?y853 (by assumption) ?_
          case y853 => (intro w hSw; unfold HeldRn at hSw; go_simp; (try with_reducible rfl); (try omega))
          simp only [List.setIfInBounds_toArray, List.set_cons_zero, List.set_cons_succ]
          refine held_take (v := ?v856) 21 rfl (by kernel_rfl) (by kernel_rfl) (by kernel_rfl) (fun _ _ _ h => h) (by rfl) ?y856 (by assumption) ?_
          case y856 => (intro w hSw; unfold HeldRn at hSw; go_simp; (try with_reducible rfl); (try omega))
          simp only [List.setIfInBounds_toArray, List.set_cons_zero, List.set_cons_succ]
          refine held_take (v := ?v859) 22 rfl (by kernel_rfl) (by kernel_rfl) (by kernel_rfl) (fun _ _ _ h => h) (by rfl) ?y859 (by assumption) ?_
          case y859 => (intro w hSw; unfold HeldRn at hSw; go_simp; (try with_reducible rfl); (try omega))
          simp only [List.setIfInBounds_toArray, List.set_cons_zero, List.set_cons_succ]
          refine held_take (v := ?v862) 23 rfl (by kernel_rfl) (by kernel_rfl) (by kernel_rfl) (fun _ _ _ h => h) (by rfl) ?y862 (by assumption) ?_
          case y862 => (intro w hSw; unfold HeldRn at hSw; go_simp; (try with_reducible rfl); (try omega))
          simp only [List.setIfInBounds_toArray, List.set_cons_zero, List.set_cons_succ]
          refine held_take (v := ?v865) 24 rfl (by kernel_rfl) (by kernel_rfl) (by kernel_rfl) (fun _ _ _ h => h) (by rfl) ?y865 (by assumption) ?_
          case y865 => (intro w hSw; unfold HeldRn at hSw; go_simp; (try with_reducible rfl); (try omega))
          simp only [List.setIfInBounds_toArray, List.set_cons_zero, List.set_cons_succ]
          refine held_take (v := .bool false) 25 rfl (by kernel_rfl) (by kernel_rfl) (by kernel_rfl) (fun _ _ _ h => h) (by rfl) (fun W hSw => (by go_simp)) (by assumption) ?_
          simp only [List.setIfInBounds_toArray, List.set_cons_zero, List.set_cons_succ]
          refine held_take (v := ?v870) 26 rfl (by kernel_rfl) (by kernel_rfl) (by kernel_rfl) (fun _ _ _ h => h) (by rfl) ?y870 (by assumption) ?_
          case y870 => (intro w hSw; unfold HeldRn at hSw; go_simp; (try with_reducible rfl); (try omega))
          simp only [List.setIfInBounds_toArray, List.set_cons_zero, List.set_cons_succ]
          refine held_take (v := ?v873) 27 rfl (by kernel_rfl) (by kernel_rfl) (by kernel_rfl) (fun _ _ _ h => h) (by rfl) ?y873 (by assumption) ?_
          case y873 => (intro w hSw; unfold HeldRn at hSw; go_simp; (try with_reducible rfl); (try omega))
          simp only [List.setIfInBounds_toArray, List.set_cons_zero, List.set_cons_succ]
          refine held_take (v := ?v876) 28 rfl (by kernel_rfl) (by kernel_rfl) (by kernel_rfl) (fun _ _ _ h => h) (by rfl) ?y876 (by assumption) ?_
          case y876 => (intro w hSw; unfold HeldRn at hSw; go_simp; (try with_reducible rfl); (try omega))
          simp only [List.setIfInBounds_toArray, List.set_cons_zero, List.set_cons_succ]
          refine held_take (v := ?v879) 29 rfl (by kernel_rfl) (by kernel_rfl) (by kernel_rfl) (fun _ _ _ h => h) (by rfl) ?y879 (by assumption) ?_
          case y879 => (intro w hSw; unfold HeldRn at hSw; go_simp; (try with_reducible rfl); (try omega))
          simp only [List.setIfInBounds_toArray, List.set_cons_zero, List.set_cons_succ]
          refine held_take (v := .bool false) 30 rfl (by kernel_rfl) (by kernel_rfl) (by kernel_rfl) (fun _ _ _ h => h) (by rfl) (fun W hSw => (by go_simp)) (by assumption) ?_
          simp only [List.setIfInBounds_toArray, List.set_cons_zero, List.set_cons_succ]
          refine held_take (v := ?v884) 31 rfl (by kernel_rfl) (by kernel_rfl) (by kernel_rfl) (fun _ _ _ h => h) (by rfl) ?y884 (by assumption) ?_
          case y884 => (intro w hSw; unfold HeldRn at hSw; go_simp; (try with_reducible rfl); (try omega))
          simp only [List.setIfInBounds_toArray, List.set_cons_zero, List.set_cons_succ]
          refine held_take (v := ?v887) 32 rfl (by kernel_rfl) (by kernel_rfl) (by kernel_rfl) (fun _ _ _ h => h) (by rfl) ?y887 (by assumption) ?_
          case y887 => (intro w hSw; unfold HeldRn at hSw; go_simp; (try with_reducible rfl); (try omega))
          simp only [List.setIfInBounds_toArray, List.set_cons_zero, List.set_cons_succ]
          refine held_take (v := ?v890) 33 rfl (by kernel_rfl) (by kernel_rfl) (by kernel_rfl) (fun _ _ _ h => h) (by rfl) ?y890 (by assumption) ?_
          case y890 => (intro w hSw; unfold HeldRn at hSw; go_simp; (try with_reducible rfl); (try omega))
          simp only [List.setIfInBounds_toArray, List.set_cons_zero, List.set_cons_succ]
          refine held_take (v := ?v893) 35 rfl (by kernel_rfl) (by kernel_rfl) (by kernel_rfl) (fun _ _ _ h => h) (by rfl) ?y893 (by assumption) ?_
          case y893 => (intro w hSw; unfold HeldRn at hSw; go_simp; (try with_reducible rfl); (try omega))
          simp only [List.setIfInBounds_toArray, List.set_cons_zero, List.set_cons_succ]
          refine held_take (v := ?v896) 36 rfl (by kernel_rfl) (by kernel_rfl) (by kernel_rfl) (fun _ _ _ h => h) (by rfl) ?y896 (by assumption) ?_
          case y896 => (intro w hSw; unfold HeldRn at hSw; go_simp; (try with_reducible rfl); (try omega))
          simp only [List.setIfInBounds_toArray, List.set_cons_zero, List.set_cons_succ]
          refine held_take (v := ?v899) 37 rfl (by kernel_rfl) (by kernel_rfl) (by kernel_rfl) (fun _ _ _ h => h) (by rfl) ?y899 (by assumption) ?_
          case y899 => (intro w hSw; unfold HeldRn at hSw; go_simp; (try with_reducible rfl); (try omega))
          simp only [List.setIfInBounds_toArray, List.set_cons_zero, List.set_cons_succ]
          refine held_one 34 rfl (by kernel_rfl) (by rfl) (fun K hK => ?_)
          go_simp
          refine (HLEN.out _ HB14.out.drew).mono ?_
          rintro e w15 ⟨rfl, rfl⟩
          refine hK.out _ _ hHeld (fun _ => ?_)
          clear hK K
          refine held_take (v := .bool false) 38 rfl (by kernel_rfl) (by kernel_rfl) (by kernel_rfl) (fun _ _ _ h => h) (by rfl) (fun W hSw => (by go_simp)) (by assumption) ?_
          simp only [List.setIfInBounds_toArray, List.set_cons_zero, List.set_cons_succ]
          refine held_take (v := ?v910) 39 rfl (by kernel_rfl) (by kernel_rfl) (by kernel_rfl) (fun _ _ _ h => h) (by rfl) ?y910 (by assumption) ?_
          case y910 => (intro w hSw; unfold HeldRn at hSw; go_simp; (try with_reducible rfl); (try omega))
          simp only [List.setIfInBounds_toArray, List.set_cons_zero, List.set_cons_succ]
          refine wpAnyH_done (by kernel_rfl) ?_ _
          refine NoPanic.normal ?_
          have HZF := Lib.hid (HZE.out.up (Below.refl _ _).drew)
          clear hHeld hH HZE HB14 HLEN
          generalize w14.drew = w16 at *
          go_wp2
          go_roundw
          case rel => exact ⟨i + 1, L, a1, _, cap1, by omega, by go_num, by omega, by rw [show 1 + 150 * (i + 1) = 1 + 150 * i + 150 by omega]; exact HZF.out⟩
          case measure => simp [intOf]; omega
end Go.Proofs.Ytecefdocemkliaa

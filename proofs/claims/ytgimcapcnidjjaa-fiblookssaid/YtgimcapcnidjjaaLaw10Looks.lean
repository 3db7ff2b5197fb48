/- FibLooks: what is found of an address is it alone, if that is there, else the longest one that covers it. -/
import Derived.Test.YtgimcapcnidjjaaH10
namespace Go.Proofs.Ytgimcapcnidjjaa
open Go Go.RowKit

def HeldL10 (C b k : Nat) (l m : List Value) (W : World) : Prop := W.rangeAt C 0 l ∧ W.rangeAt b k m
theorem eqI_self (x : Pfx × Int) : eqI x x = true := by unfold eqI; simp [eqP_self]
set_option maxRecDepth 100000 in
set_option maxHeartbeats 8000000 in
theorem looks_walk (sa : Option Addr) (sn scap : Nat) (st : List Stp) (six : Bool) (a : List UInt8) (w : World) (hS : IsC stF 20 w (.slice sa sn scap) st) (hok : ∀ s ∈ st, s.p.addr.length = 16) (ha : a.length = 16) :
    Calls Try.prog 5 #[.slice sa sn scap, .bool six, arrV a] w fun e w' => e = .returned (.bool true) ∧ Below w.heap.size w w' := by
  have HA := Lib.hid (fun W => awake10 W)
  have hb : Below w.heap.size w (w.alloc (.cells (byteVals a).toArray 23)) := (Below.refl _ _).alloc (Nat.le_refl _) _
  have HX := Lib.hid (Bx.new w 23 (byteVals a))
  have HB := Lib.hid hb
  have HSC := Lib.hid hS
  have HOK := Lib.hid hok
  have HAL := Lib.hid ha
  obtain ⟨rfl, hcap, hcm, _⟩ := hS.shape
  unfold maxLen at hcm
  rw [show arrV a = .agg (byteVals a).toArray from rfl]
  clear hS hok ha hb
  by_cases h50 : 50 < st.length
  · have h50i : (50 : Int) < (st.length : Int) := by omega
    go_enter Try.func5, Try.ntmps5
    go_wp2_with (go_at_call 6; refine (HA.out _).mono ?_; rintro e w1 ⟨rfl, b1⟩; refine Hid.out ?_)
    refine Lib.hid ?_
    go_wp2
    go_ret
    exact ⟨rfl, below_up HB.out b1 HB.out.size⟩
  have h50i : (st.length : Int) ≤ 50 := by omega
  have HN := Lib.hid (fun W => fnew 60 W (by omega) (by omega))
  go_enter Try.func5, Try.ntmps5
  go_wp2_with (go_at_call 6; refine (HA.out _).mono ?_; rintro e w1 ⟨rfl, b1⟩; refine Hid.out ?_)
  refine Lib.hid ?_
  have B1 := below_up HB.out b1 HB.out.size
  have x1 := HX.out.up b1
  clear HB HX b1
  go_wp2_with (go_at_call 7; refine (HN.out _).mono ?_; rintro e w2 ⟨g, X, rfl, t2, b2, xx2⟩; refine Hid.out ?_)
  refine Lib.hid ?_
  have z2 : RunF w 23 (byteVals a) (.pointer (some ⟨g, 0, none⟩)) 60 (fun _ => []) 1 w2 := ⟨x1.up b2, ⟨X, t2, fun k hk => by have := xx2 k hk; have := x1.lt; omega⟩, below_up B1 b2 B1.size⟩
  clear x1 B1 t2 b2 xx2 HN
  go_wp2
  go_loopw [9] (fun r wr => ∃ i : Nat, i ≤ st.length ∧ r = .int .i64 (i : Int) ∧ RunF w 23 (byteVals a) (.pointer (some ⟨g, 0, none⟩)) 60 (putF 60 (st.take i)) (1 + 150 * i) wr) (fun r _ => st.length - (intOf r).toNat)
  case atStart => exact ⟨0, by omega, rfl, z2⟩
  case round =>
    obtain ⟨i, hi, rfl, hz⟩ := hrel
    clear z2
    by_cases hie : i = st.length
    · subst hie
      rw [List.take_length] at hz
      have hN : 1 + 150 * st.length ≤ 400000 := by omega
      generalize putF 60 st = L at *
      generalize 1 + 150 * st.length = N at *
      have hord := hz.order six
      -- what is known of the address, and of it alone
      have h16 : (ofP six a 128).addr.length = 16 := (of_ok six a).2.1
      have F1 : ∀ v, getT cmpP (ofP six a 128) (L (ofP six a 128).six) = some v → lookT a (L six) = some (ofP six a 128, v) := fun v hv => look_self hord a v (getT_mem _ _ v hord h16 hv)
      have F2 : getT cmpP (ofP six a 128) (L (ofP six a 128).six) = none → lookT a (L six) = (abvL (ofP six a 128) (L (ofP six a 128).six)).head? := fun hn => look_above hord a (fun x hx e => by
        have h1 := get_mem_in (L six) hord x hx
        rw [e] at h1
        rw [show L (ofP six a 128).six = L six from rfl, h1] at hn
        cases hn)
      have hx16 : ((lookT a (L six)).getD it0).1.addr.length = 16 := by
        cases hl : lookT a (L six) with
        | none => rfl
        | some y => exact (hord.2 y (look_mem a _ y hl).1).2.1
      have HF1 := Lib.hid F1
      have HF2 := Lib.hid F2
      have HX16 := Lib.hid hx16
      have H16 := Lib.hid h16
      have HOF := Lib.hid (fun W => qof_any six a 128 W HAL.out)
      have HNN := Lib.hid hN
      have R5 := Lib.hid (rangeAll hz.box)
      have HZ := Lib.hid hz
      have HLK := Lib.hid (fun W (h : RunF w 23 (byteVals a) (.pointer (some ⟨g, 0, none⟩)) 60 L N W) => h.look six a HAL.out)
      have HGT := Lib.hid (fun W (h : RunF w 23 (byteVals a) (.pointer (some ⟨g, 0, none⟩)) 60 L N W) => h.get (ofP six a 128) h16)
      have HAB := Lib.hid (fun W (h : RunF w 23 (byteVals a) (.pointer (some ⟨g, 0, none⟩)) 60 L N W) => h.above (ofP six a 128) h16 hN)
      clear hord hx16 h16 F1 F2 hN hz
      generalize ofP six a 128 = p at *
      generalize hlk : lookT a (L six) = lk at *
      go_wp2_with (first
        | (refine plV rfl (arrV a) (exec_load_any _ (.tmp 5) rfl w.heap.size 0 (byteVals a) _ rfl R5.out Try.underlying23 rfl (by rw [byteVals_length, HAL.out]; exact arr16P.info)) ?_)
        | (go_at_call 28; refine (HOF.out _).mono ?_; rintro e w3 ⟨rfl, b3⟩; refine Hid.out ?_))
      refine Lib.hid ?_
      have hbA : Below w3.heap.size w3 (w3.alloc (.cells p.row.toArray 25)) := (Below.refl _ _).alloc (Nat.le_refl _) _
      have HZ4 := Lib.hid ((HZ.out.up b3).up hbA)
      have HP4 := Lib.hid (Bx.new w3 25 p.row)
      clear hbA b3 HZ R5 HOF
      rw [show p.val = .agg p.row.toArray from rfl]
      go_wp2_with (refine wpList_store_fresh rfl 25 (.tmp 10) (.tmp 43) rfl p.row _ w3.heap.size rfl rfl rfl (pf_infoC H16.out) (by rw [row_len H16.out]; rfl) (row_one p) ?_; refine Hid.out ?_)
      refine Lib.hid ?_
      have R6 := Lib.hid (rangeAll HZ4.out.box)
      generalize w3.alloc (.cells p.row.toArray 25) = W4 at *
      generalize w3.heap.size = B at *
      go_wp2_with (first
        | (refine plV rfl (arrV a) (exec_load_any _ (.tmp 5) rfl w.heap.size 0 (byteVals a) _ rfl R6.out Try.underlying23 rfl (by rw [byteVals_length, HAL.out]; exact arr16P.info)) ?_)
        | (go_at_call 13; refine (HLK.out _ HZ4.out).mono ?_; rintro e w5 ⟨rfl, b5⟩; refine Hid.out ?_))
      refine Lib.hid ?_
      generalize hx : lk.getD it0 = x at *
      have hbC : Below w5.heap.size w5 (w5.alloc (.cells (itR x.1 x.2).toArray 44)) := (Below.refl _ _).alloc (Nat.le_refl _) _
      have HZ6 := Lib.hid ((HZ4.out.up b5).up hbC)
      have HP6 := Lib.hid ((HP4.out.up b5).up hbC)
      have HX6 := Lib.hid (Bx.new w5 44 (itR x.1 x.2))
      have HXE := Lib.hid hx
      clear hbC b5 HZ4 HP4 R6 HLK hx
      rw [show itV x.1 x.2 = .agg (itR x.1 x.2).toArray from rfl]
      generalize hisb : lk.isSome = isb at *
      have HIS := Lib.hid hisb
      clear hisb
      go_wp2_with (refine wpList_store_fresh rfl 44 (.tmp 11) (.tmp 49) rfl (itR x.1 x.2) _ w5.heap.size rfl rfl rfl (it_infoC HX16.out x.2) (by rw [it_len HX16.out]; rfl) (it_one _ _) ?_; refine Hid.out ?_)
      refine Lib.hid ?_
      have R7 := Lib.hid (rangeAll HP6.out)
      generalize w5.alloc (.cells (itR x.1 x.2).toArray 44) = W6 at *
      generalize w5.heap.size = C at *
      go_wp2_with (first
        | (refine plV rfl p.val (exec_load_any _ (.tmp 10) rfl B 0 p.row _ rfl R7.out Try.underlying25 rfl (pf_infoC H16.out)) ?_)
        | (go_at_call 15; refine (HGT.out _ HZ6.out).mono ?_; rintro e w7 ⟨rfl, b7⟩; refine Hid.out ?_))
      refine Lib.hid ?_
      have HZ7 := Lib.hid (HZ6.out.up b7)
      have HP7 := Lib.hid (HP6.out.up b7)
      have HX7 := Lib.hid (HX6.out.up b7)
      clear b7 HZ6 HP6 HX6 HGT R7
      cases hgt : getT cmpP p (L p.six) with
      | some v =>
        have e1 := HF1.out v hgt
        subst e1
        obtain rfl : (p, v) = x := HXE.out
        obtain rfl : true = isb := HIS.out
        have R8 := Lib.hid (rangeAll HP7.out)
        have R9 := Lib.hid (rangeAll HX7.out)
        clear HF1 HF2 HAB hgt
        go_wp2_with (first
          | (refine plV rfl (itV p v) (exec_load_any _ (.tmp 11) rfl C 0 (itR p v) _ rfl R9.out Try.underlying44 rfl (it_infoC H16.out v)) ?_)
          | (refine plV rfl p.val (exec_load_any _ (.tmp 10) rfl B 0 p.row _ rfl R8.out Try.underlying25 rfl (pf_infoC H16.out)) ?_)
          | (refine plV rfl (itV p v) (exec_build2 _ 0 1 (.tmp 61) (.tmp 62) rfl p.val (.int .i64 v) (itR p v) rfl rfl (built_it2 p H16.out v)) ?_)
          | (refine plV rfl (.bool true) ((exec_eql_it 60 63 _ rfl p p v v H16.out H16.out rfl rfl).trans (by rw [eqI_self])) ?_))
        go_ret
        exact ⟨rfl, HZ7.out.below⟩
      | none =>
        have e1 := HF2.out hgt
        have HE1 := Lib.hid e1
        have HAB7 := Lib.hid (HAB.out _ HZ7.out)
        have R8 := Lib.hid (rangeAll HP7.out)
        clear HF1 HF2 HAB hgt e1
        generalize abvL p (L p.six) = V at *
        go_wp2_with (first
          | (refine plV rfl p.val (exec_load_any _ (.tmp 10) rfl B 0 p.row _ rfl R8.out Try.underlying25 rfl (pf_infoC H16.out)) ?_)
          | (go_at_call 22; refine HAB7.out.mono ?_; rintro e w8 ⟨va, vc, rfl, l8, b8⟩; refine Hid.out ?_))
        refine Lib.hid ?_
        have HZ8 := Lib.hid (HZ7.out.up b8)
        have HX8 := Lib.hid (HX7.out.up b8)
        clear b8 HZ7 HX7 HP7 R8 HAB7
        rcases V with _ | ⟨y, V⟩
        · have e1 := HE1.out
          subst e1
          obtain rfl : false = isb := HIS.out
          have HL8 := Lib.hid l8
          clear l8
          go_wp2
          go_ret
          exact ⟨rfl, HZ8.out.below⟩
        · have e1 := HE1.out
          subst e1
          obtain rfl : y = x := HXE.out
          obtain rfl : true = isb := HIS.out
          obtain ⟨b, k, rfl, hbl, r0⟩ := isC_at l8 0 y rfl
          rw [Nat.zero_mul, Nat.add_zero] at r0
          obtain ⟨_, hvc, hvm, _⟩ := l8.shape
          unfold maxLen at hvm
          have hvl : 0 < (y :: V).length := by simp
          have hv0 : ((((y :: V).length : Nat) : Int) == 0) = false := by simp; omega
          generalize (y :: V).length = vn at *
          have HHD := Lib.hid (⟨fun i v hv => (rangeAll HX8.out) i v hv, r0⟩ : HeldL10 C b k (itR y.1 y.2) (itF y) w8.drew)
          clear l8 r0 HE1
          go_wp2
          refine wp_region_noPanic ?_
          refine wp_region_held_drew (S := HeldL10 C b k (itR y.1 y.2) (itF y)) (by kernel_rfl) HHD.out (fun hHeld => ?_)
          refine held_take (v := ?v178) 0 rfl (by kernel_rfl) (by kernel_rfl) (by kernel_rfl) (fun _ _ _ h => h) (by rfl) ?y178 (by assumption) ?_
          case y178 => (intro w hSw; unfold HeldL10 at hSw; go_simp; (try with_reducible rfl); (try omega))
          simp only [List.setIfInBounds_toArray, List.set_cons_zero, List.set_cons_succ]
          refine held_take (v := ?v181) 1 rfl (by kernel_rfl) (by kernel_rfl) (by kernel_rfl) (fun _ _ _ h => h) (by rfl) ?y181 (by assumption) ?_
          case y181 => (intro w hSw; unfold HeldL10 at hSw; go_simp; (try with_reducible rfl); (try omega))
          simp only [List.setIfInBounds_toArray, List.set_cons_zero, List.set_cons_succ]
          refine held_take (v := itV y.1 y.2) 2 rfl (by kernel_rfl) (by kernel_rfl) (by kernel_rfl) (fun _ _ _ h => h) (by rfl) (fun W hSw => exec_load_any _ (.tmp 11) rfl C 0 (itR y.1 y.2) _ rfl hSw.1 Try.underlying44 rfl (it_infoC HX16.out y.2)) (by assumption) ?_
          simp only [List.setIfInBounds_toArray, List.set_cons_zero, List.set_cons_succ]
          refine held_take (v := ?v186) 3 rfl (by kernel_rfl) (by kernel_rfl) (by kernel_rfl) (fun _ _ _ h => h) (by rfl) ?y186 (by assumption) ?_
          case y186 => (intro w hSw; unfold HeldL10 at hSw; go_simp; (try with_reducible rfl); (try omega))
          simp only [List.setIfInBounds_toArray, List.set_cons_zero, List.set_cons_succ]
          refine held_take (v := ?v189) 4 rfl (by kernel_rfl) (by kernel_rfl) (by kernel_rfl) (fun _ _ _ h => h) (by rfl) ?y189 (by assumption) ?_
          case y189 => (intro w hSw; unfold HeldL10 at hSw; go_simp; (try with_reducible rfl); (try omega))
          simp only [List.setIfInBounds_toArray, List.set_cons_zero, List.set_cons_succ]
          refine held_take (v := itV y.1 y.2) 5 rfl (by kernel_rfl) (by kernel_rfl) (by kernel_rfl) (fun _ _ _ h => h) (by rfl) (fun W hSw => exec_load_any _ (.tmp 78) rfl b k (itR y.1 y.2) _ rfl hSw.2 Try.underlying44 rfl (it_infoC HX16.out y.2)) (by assumption) ?_
          simp only [List.setIfInBounds_toArray, List.set_cons_zero, List.set_cons_succ]
          refine held_take (v := .bool true) 6 rfl (by kernel_rfl) (by kernel_rfl) (by kernel_rfl) (fun _ _ _ h => h) (by rfl) (fun W hSw => (exec_eql_it 76 79 _ rfl y.1 y.1 y.2 y.2 HX16.out HX16.out rfl rfl).trans (by rw [eqI_self])) (by assumption) ?_
          simp only [List.setIfInBounds_toArray, List.set_cons_zero, List.set_cons_succ]
          refine held_take (v := ?v196) 7 rfl (by kernel_rfl) (by kernel_rfl) (by kernel_rfl) (fun _ _ _ h => h) (by rfl) ?y196 (by assumption) ?_
          case y196 => (intro w hSw; unfold HeldL10 at hSw; go_simp; (try with_reducible rfl); (try omega))
          simp only [List.setIfInBounds_toArray, List.set_cons_zero, List.set_cons_succ]
          refine held_take (v := ?v199) 8 rfl (by kernel_rfl) (by kernel_rfl) (by kernel_rfl) (fun _ _ _ h => h) (by rfl) ?y199 (by assumption) ?_
          case y199 => (intro w hSw; unfold HeldL10 at hSw; go_simp; (try with_reducible rfl); (try omega))
          simp only [List.setIfInBounds_toArray, List.set_cons_zero, List.set_cons_succ]
          refine wpAnyH_done (by kernel_rfl) ?_ _
          refine NoPanic.normal ?_
          go_wp2
          go_ret
          exact ⟨rfl, HZ8.out.below.drew⟩
    · have hlt : i < st.length := by omega
      obtain ⟨s, hs⟩ : ∃ s, st[i]? = some s := ⟨_, List.getElem?_eq_getElem hlt⟩
      have h16 := HOK.out s (List.mem_of_getElem? hs)
      obtain ⟨b, k, rfl, hbw, q0, q1, q2⟩ := step_at HSC.out i s hs h16
      have hii : (i : Int) < (st.length : Int) := by omega
      have HPU := Lib.hid (fun W (h : RunF w 23 (byteVals a) (.pointer (some ⟨g, 0, none⟩)) 60 (putF 60 (st.take i)) (1 + 150 * i) W) => h.put s.p s.v h16 (by omega))
      have hHS : ∀ W, Below w.heap.size w W → HeldS b (k + i * 20) s.p.row s.v W := fun W hW => ⟨fun j v hv => (hW.cell (p := ⟨b, k + i * 20 + 1 + j, none⟩) hbw).trans (q1 j v hv), (hW.cell (p := ⟨b, k + i * 20 + 19, none⟩) hbw).trans q2⟩
      have HHS := Lib.hid hHS
      have H16 := Lib.hid h16
      have HSN := Lib.hid (show putF 60 (st.take (i + 1)) = fputL true 60 (putF 60 (st.take i)) s.p s.v by rw [take_snoc hs, putF_snoc])
      have HZ := Lib.hid hz
      clear hHS h16 q0 q1 q2 hz
      go_wp2
      refine wp_region_noPanic ?_
      refine wp_region_held_drew (S := HeldS b (k + i * 20) s.p.row s.v) (by kernel_rfl) (HHS.out _ HZ.out.below.drew) (fun hHeld => ?_)
      have hz1 := HZ.out.up (Below.refl _ _).drew
      clear HZ
      generalize wr.drew = W1 at *
      refine held_take (v := ?v225) 0 rfl (by kernel_rfl) (by kernel_rfl) (by kernel_rfl) (fun _ _ _ h => h) (by rfl) ?y225 (by assumption) ?_
      case y225 => (intro w hSw; unfold HeldS at hSw; go_simp; (try with_reducible rfl); (try omega))
      simp only [List.setIfInBounds_toArray, List.set_cons_zero, List.set_cons_succ]
      refine held_take (v := ?v228) 1 rfl (by kernel_rfl) (by kernel_rfl) (by kernel_rfl) (fun _ _ _ h => h) (by rfl) ?y228 (by assumption) ?_
      case y228 => (intro w hSw; unfold HeldS at hSw; go_simp; (try with_reducible rfl); (try omega))
      simp only [List.setIfInBounds_toArray, List.set_cons_zero, List.set_cons_succ]
      refine held_take (v := ?v231) 2 rfl (by kernel_rfl) (by kernel_rfl) (by kernel_rfl) (fun _ _ _ h => h) (by rfl) ?y231 (by assumption) ?_
      case y231 => (intro w hSw; unfold HeldS at hSw; go_simp; (try with_reducible rfl); (try omega))
      simp only [List.setIfInBounds_toArray, List.set_cons_zero, List.set_cons_succ]
      refine held_take (v := ?v234) 3 rfl (by kernel_rfl) (by kernel_rfl) (by kernel_rfl) (fun _ _ _ h => h) (by rfl) ?y234 (by assumption) ?_
      case y234 => (intro w hSw; unfold HeldS at hSw; go_simp; (try with_reducible rfl); (try omega))
      simp only [List.setIfInBounds_toArray, List.set_cons_zero, List.set_cons_succ]
      refine held_take (v := ?v237) 4 rfl (by kernel_rfl) (by kernel_rfl) (by kernel_rfl) (fun _ _ _ h => h) (by rfl) ?y237 (by assumption) ?_
      case y237 => (intro w hSw; unfold HeldS at hSw; go_simp; (try with_reducible rfl); (try omega))
      simp only [List.setIfInBounds_toArray, List.set_cons_zero, List.set_cons_succ]
      refine held_take (v := s.p.val) 5 rfl (by kernel_rfl) (by kernel_rfl) (by kernel_rfl) (fun _ _ _ h => h) (by rfl) (fun W hSw => exec_load_any _ (.tmp 33) rfl b (k + i * 20 + 1) s.p.row _ rfl hSw.1 Try.underlying25 rfl (pf_infoC H16.out)) (by assumption) ?_
      simp only [List.setIfInBounds_toArray, List.set_cons_zero, List.set_cons_succ]
      refine held_take (v := ?v242) 6 rfl (by kernel_rfl) (by kernel_rfl) (by kernel_rfl) (fun _ _ _ h => h) (by rfl) ?y242 (by assumption) ?_
      case y242 => (intro w hSw; unfold HeldS at hSw; go_simp; (try with_reducible rfl); (try omega))
      simp only [List.setIfInBounds_toArray, List.set_cons_zero, List.set_cons_succ]
      refine held_take (v := ?v245) 7 rfl (by kernel_rfl) (by kernel_rfl) (by kernel_rfl) (fun _ _ _ h => h) (by rfl) ?y245 (by assumption) ?_
      case y245 => (intro w hSw; unfold HeldS at hSw; go_simp; (try with_reducible rfl); (try omega))
      simp only [List.setIfInBounds_toArray, List.set_cons_zero, List.set_cons_succ]
      refine held_take (v := ?v248) 8 rfl (by kernel_rfl) (by kernel_rfl) (by kernel_rfl) (fun _ _ _ h => h) (by rfl) ?y248 (by assumption) ?_
      case y248 => (intro w hSw; unfold HeldS at hSw; go_simp; (try with_reducible rfl); (try omega))
      simp only [List.setIfInBounds_toArray, List.set_cons_zero, List.set_cons_succ]
      refine held_take (v := ?v251) 9 rfl (by kernel_rfl) (by kernel_rfl) (by kernel_rfl) (fun _ _ _ h => h) (by rfl) ?y251 (by assumption) ?_
      case y251 => (intro w hSw; unfold HeldS at hSw; go_simp; (try with_reducible rfl); (try omega))
      simp only [List.setIfInBounds_toArray, List.set_cons_zero, List.set_cons_succ]
      refine held_take (v := ?v254) 10 rfl (by kernel_rfl) (by kernel_rfl) (by kernel_rfl) (fun _ _ _ h => h) (by rfl) ?y254 (by assumption) ?_
      case y254 => (intro w hSw; unfold HeldS at hSw; go_simp; (try with_reducible rfl); (try omega))
      simp only [List.setIfInBounds_toArray, List.set_cons_zero, List.set_cons_succ]
      refine held_one 11 rfl (by kernel_rfl) (by rfl) (fun K hK => ?_)
      go_simp
      refine (HPU.out _ hz1).mono ?_
      rintro e w3 ⟨rfl, z3⟩
      refine hK.out _ _ (HHS.out _ z3.below) (fun _ => ?_)
      clear hK K hHeld hz1
      refine wpAnyH_done (by kernel_rfl) ?_ _
      refine NoPanic.normal ?_
      rw [← HSN.out] at z3
      have HZ3 := Lib.hid z3
      clear z3 HPU
      go_wp2
      go_roundw
      case rel => exact ⟨i + 1, by omega, by go_num, by rw [show 1 + 150 * (i + 1) = 1 + 150 * i + 150 by omega]; exact HZ3.out⟩
      case measure => simp [intOf]; omega
end Go.Proofs.Ytgimcapcnidjjaa

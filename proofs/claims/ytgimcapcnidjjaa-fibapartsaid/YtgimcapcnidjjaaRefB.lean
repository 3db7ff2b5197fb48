/- The document's table of stage 9: Put and Delete where they are done, or refused by what is there. The document's table of stage 9: Put and Delete of anything; Do; Look. -/
import Derived.Test.YtgimcapcnidjjaaRefA
namespace Go.Proofs.Ytgimcapcnidjjaa
open Go Go.RowKit

theorem isC_one {W : World} {b : Nat} {t : TypeId} {x : Pfx × Int} (hx : x.1.addr.length = 16) (h : Bx W b t (itF x)) : IsC itF 19 W (.slice (some ⟨b, 0, none⟩) 1 1) [x] := by
  refine ⟨fun y hy => by rw [List.mem_singleton.1 hy]; exact it_len hx _, _, 1, rfl, by simp, by simp [maxLen], fun _ => ⟨b, 0, rfl, h.lt, ?_⟩⟩
  have := rangeAll h
  simpa [itF] using this
theorem itF_one (L : List (Pfx × Int)) : ∀ y ∈ L, ∀ u ∈ itF y, u.oneCell' = true := fun y _ => it_one y.1 y.2
/-- The call's own row lies apart from its boxes. -/
theorem own_apart {w W : World} {l : List Value} {p : Pfx} {v : Value} {n : Nat} {xs : List Value} (z : PutB w l p W) (h : W.ownsRow w.heap.size 47 19 v n xs) : ∀ k, v.ownBlock = some k → w.heap.size ≤ k ∧ k ≠ w.heap.size ∧ k ≠ w.heap.size + 1 ∧ k ≠ w.heap.size + 1 + 1 := by
  intro k hk
  obtain ⟨cur, hc⟩ := own_type h k hk
  refine ⟨owned_low h k hk, fun e => ?_, fun e => ?_, fun e => ?_⟩
  · rw [e, show W.heap[w.heap.size]? = _ from z.1] at hc; cases hc
  · rw [e, show W.heap[w.heap.size + 1]? = _ from z.2.1] at hc; cases hc
  · rw [e, show W.heap[w.heap.size + 1 + 1]? = _ from z.2.2.1] at hc; cases hc
theorem own_slice {w : World} {base : Nat} {e : TypeId} {size : Nat} {v : Value} {n : Nat} {xs : List Value} (h : w.ownsRow base e size v n xs) : ∃ a c, v = .slice a n c := by
  rcases h.2 with ⟨rfl, rfl⟩ | ⟨g, cap, cur, rfl, _⟩
  · exact ⟨none, 0, rfl⟩
  · exact ⟨_, _, rfl⟩
set_option maxRecDepth 100000 in
set_option maxHeartbeats 8000000 in
theorem qput_full (is six : Bool) (room : Int) (a : Option Addr) (n cap : Nat) (L : List (Pfx × Int)) (p : Pfx) (x : Int) (w : World) (hC : IsC itF 19 w (.slice a n cap) L) (hp : p.addr.length = 16) (hl : L.length ≤ 900000) (hr : (is && (chkP p && (p.six == six))) = true) (hi : isT cmpP p L = false) (hf : (L.length : Int) = room) :
    Calls Try.prog 33 #[tV is six room (.slice a n cap), p.val, .int .i64 x] w (RefT w a L is six room L 30) := by
  have HZ := Lib.hid (putB_new w (tR is six room (.slice a n cap)) p)
  have HR := Lib.hid (fun W => qright is six room (.slice a n cap) p W hp)
  rw [hr] at HR
  have ez : (#[.bool false, .bool false, .int .i64 0, .slice none 0 0] : Array Value) = (tR false false 0 (.slice none 0 0)).toArray := rfl
  have HP := Lib.hid hp
  have HC := Lib.hid hC
  have HF := Lib.hid (fun W (hW : Below w.heap.size w W) => qfind a n cap L p W (hC.below hW) hp (by omega))
  have R1 := Lib.hid (rangeAll HZ.out.1)
  have R2 := Lib.hid (rangeAll HZ.out.2.1)
  obtain ⟨rfl, hcap, hcm, _⟩ := hC.shape
  unfold maxLen at hcm
  have hqq : ((L.length : Int) == room) = true := by simpa using hf
  rw [hi] at HF
  unfold RefT
  rw [show tV is six room (.slice a L.length cap) = .agg (tR is six room (.slice a L.length cap)).toArray from rfl, show p.val = .agg p.row.toArray from rfl]
  clear hp hC
  go_enter Try.func33, Try.ntmps33
  go_wp2_with (first
    | (refine plV rfl (tV is six room (.slice a L.length cap)) (exec_load_any _ (.tmp 3) rfl w.heap.size 0 (tR is six room (.slice a L.length cap)) _ rfl R1.out Try.underlying31 rfl t_info) ?_)
    | (refine plV rfl p.val (exec_load_any _ (.tmp 4) rfl (w.heap.size + 1) 0 p.row _ rfl R2.out Try.underlying25 rfl (pf_infoC HP.out)) ?_)
    | (go_at_call 55; refine (HR.out _).mono ?_; rintro e w1 ⟨rfl, b1⟩; refine Hid.out ?_))
  refine Lib.hid ?_
  have z1 := HZ.out.up b1
  have R3 := Lib.hid (rangeAll z1.2.1)
  have c3 : w1.cell? ⟨w.heap.size, 3, none⟩ = some (.slice a L.length cap) := by rw [z1.1.cell]; rfl
  have HF1 := Lib.hid (HF.out _ z1.2.2.2)
  clear HZ R1 R2 b1 HF
  go_wp2_with (first
    | (refine plV rfl p.val (exec_load_any _ (.tmp 4) rfl (w.heap.size + 1) 0 p.row _ rfl R3.out Try.underlying25 rfl (pf_infoC HP.out)) ?_)
    | (go_at_call 56; refine HF1.out.mono ?_; rintro e w2 ⟨rfl, b2⟩; refine Hid.out ?_))
  refine Lib.hid ?_
  have z2 := z1.up b2
  clear z1 R3 c3 HF1 b2
  have c3 : w2.cell? ⟨w.heap.size, 3, none⟩ = some (.slice a L.length cap) := by rw [z2.1.cell]; rfl
  have c2 : w2.cell? ⟨w.heap.size, 2, none⟩ = some (.int .i64 room) := by rw [z2.1.cell]; rfl
  have R4 := Lib.hid (rangeAll z2.1)
  have HZ2 := Lib.hid z2
  clear z2
  go_wp2_with (first
    | (refine plV rfl (tV is six room (.slice a L.length cap)) (exec_load_any _ (.tmp 3) rfl w.heap.size 0 (tR is six room (.slice a L.length cap)) _ rfl R4.out Try.underlying31 rfl t_info) ?_)
    | (refine wpList_store_bx rfl 31 (.tmp 6) (.tmp 35) rfl (w.heap.size + 1 + 1) (tR is six room (.slice a L.length cap)) (tR false false 0 (.slice none 0 0)) rfl rfl HZ2.out.2.2.1 t_info rfl (t_one _ _ _ _ rfl) ?_; refine Hid.out ?_))
  refine Lib.hid ?_
  go_wp2
  have hb := below_row HZ2.out.2.2.2 (show w.heap.size ≤ w.heap.size + 1 + 1 by omega) (tR is six room (.slice a L.length cap)).toArray
  exact bodyPost_ret (results_t2 Try.results33 _ _ (w.heap.size + 1 + 1) (tR is six room (.slice a L.length cap)) rfl rfl (HZ2.out.2.2.1.row _)) rfl ⟨⟨a, _, cap, rfl, HC.out.below hb, .inl ⟨rfl, by trivial⟩⟩, hb⟩
set_option maxRecDepth 100000 in
set_option maxHeartbeats 8000000 in
theorem qdel_none (is six : Bool) (room : Int) (a : Option Addr) (n cap : Nat) (L : List (Pfx × Int)) (p : Pfx) (w : World) (hC : IsC itF 19 w (.slice a n cap) L) (hp : p.addr.length = 16) (hl : L.length ≤ 900000) (hr : (is && (chkP p && (p.six == six))) = true) (hi : isT cmpP p L = false) :
    Calls Try.prog 35 #[tV is six room (.slice a n cap), p.val] w (RefT w a L is six room L 31) := by
  have HZ := Lib.hid (putB_new w (tR is six room (.slice a n cap)) p)
  have HR := Lib.hid (fun W => qright is six room (.slice a n cap) p W hp)
  rw [hr] at HR
  have ez : (#[.bool false, .bool false, .int .i64 0, .slice none 0 0] : Array Value) = (tR false false 0 (.slice none 0 0)).toArray := rfl
  have HP := Lib.hid hp
  have HC := Lib.hid hC
  have HF := Lib.hid (fun W (hW : Below w.heap.size w W) => qfind a n cap L p W (hC.below hW) hp (by omega))
  have R1 := Lib.hid (rangeAll HZ.out.1)
  have R2 := Lib.hid (rangeAll HZ.out.2.1)
  obtain ⟨rfl, hcap, hcm, _⟩ := hC.shape
  unfold maxLen at hcm
  rw [hi] at HF
  unfold RefT
  rw [show tV is six room (.slice a L.length cap) = .agg (tR is six room (.slice a L.length cap)).toArray from rfl, show p.val = .agg p.row.toArray from rfl]
  clear hp hC
  go_enter Try.func35, Try.ntmps35
  go_wp2_with (first
    | (refine plV rfl (tV is six room (.slice a L.length cap)) (exec_load_any _ (.tmp 2) rfl w.heap.size 0 (tR is six room (.slice a L.length cap)) _ rfl R1.out Try.underlying31 rfl t_info) ?_)
    | (refine plV rfl p.val (exec_load_any _ (.tmp 3) rfl (w.heap.size + 1) 0 p.row _ rfl R2.out Try.underlying25 rfl (pf_infoC HP.out)) ?_)
    | (go_at_call 55; refine (HR.out _).mono ?_; rintro e w1 ⟨rfl, b1⟩; refine Hid.out ?_))
  refine Lib.hid ?_
  have z1 := HZ.out.up b1
  have R3 := Lib.hid (rangeAll z1.2.1)
  have c3 : w1.cell? ⟨w.heap.size, 3, none⟩ = some (.slice a L.length cap) := by rw [z1.1.cell]; rfl
  have HF1 := Lib.hid (HF.out _ z1.2.2.2)
  clear HZ R1 R2 b1 HF
  go_wp2_with (first
    | (refine plV rfl p.val (exec_load_any _ (.tmp 3) rfl (w.heap.size + 1) 0 p.row _ rfl R3.out Try.underlying25 rfl (pf_infoC HP.out)) ?_)
    | (go_at_call 56; refine HF1.out.mono ?_; rintro e w2 ⟨rfl, b2⟩; refine Hid.out ?_))
  refine Lib.hid ?_
  have z2 := z1.up b2
  clear z1 R3 c3 HF1 b2
  have c3 : w2.cell? ⟨w.heap.size, 3, none⟩ = some (.slice a L.length cap) := by rw [z2.1.cell]; rfl
  have c2 : w2.cell? ⟨w.heap.size, 2, none⟩ = some (.int .i64 room) := by rw [z2.1.cell]; rfl
  have R4 := Lib.hid (rangeAll z2.1)
  have HZ2 := Lib.hid z2
  clear z2
  go_wp2_with (first
    | (refine plV rfl (tV is six room (.slice a L.length cap)) (exec_load_any _ (.tmp 2) rfl w.heap.size 0 (tR is six room (.slice a L.length cap)) _ rfl R4.out Try.underlying31 rfl t_info) ?_)
    | (refine wpList_store_bx rfl 31 (.tmp 4) (.tmp 25) rfl (w.heap.size + 1 + 1) (tR is six room (.slice a L.length cap)) (tR false false 0 (.slice none 0 0)) rfl rfl HZ2.out.2.2.1 t_info rfl (t_one _ _ _ _ rfl) ?_; refine Hid.out ?_))
  refine Lib.hid ?_
  go_wp2
  have hb := below_row HZ2.out.2.2.2 (show w.heap.size ≤ w.heap.size + 1 + 1 by omega) (tR is six room (.slice a L.length cap)).toArray
  exact bodyPost_ret (results_t2 Try.results35 _ _ (w.heap.size + 1 + 1) (tR is six room (.slice a L.length cap)) rfl rfl (HZ2.out.2.2.1.row _)) rfl ⟨⟨a, _, cap, rfl, HC.out.below hb, .inl ⟨rfl, by trivial⟩⟩, hb⟩
set_option maxRecDepth 100000 in
set_option maxHeartbeats 8000000 in
theorem qdel_no (is six : Bool) (room : Int) (a : Option Addr) (n cap : Nat) (L : List (Pfx × Int)) (p : Pfx) (w : World) (hC : IsC itF 19 w (.slice a n cap) L) (hp : p.addr.length = 16) (hr : (is && (chkP p && (p.six == six))) = false) :
    Calls Try.prog 35 #[tV is six room (.slice a n cap), p.val] w (RefT w a L is six room L 1) := by
  have HZ := Lib.hid (putB_new w (tR is six room (.slice a n cap)) p)
  have HR := Lib.hid (fun W => qright is six room (.slice a n cap) p W hp)
  rw [hr] at HR
  have ez : (#[.bool false, .bool false, .int .i64 0, .slice none 0 0] : Array Value) = (tR false false 0 (.slice none 0 0)).toArray := rfl
  have HP := Lib.hid hp
  have HC := Lib.hid hC
  have R1 := Lib.hid (rangeAll HZ.out.1)
  have R2 := Lib.hid (rangeAll HZ.out.2.1)
  unfold RefT
  rw [show tV is six room (.slice a n cap) = .agg (tR is six room (.slice a n cap)).toArray from rfl, show p.val = .agg p.row.toArray from rfl]
  clear hp hC
  go_enter Try.func35, Try.ntmps35
  go_wp2_with (first
    | (refine plV rfl (tV is six room (.slice a n cap)) (exec_load_any _ (.tmp 2) rfl w.heap.size 0 (tR is six room (.slice a n cap)) _ rfl R1.out Try.underlying31 rfl t_info) ?_)
    | (refine plV rfl p.val (exec_load_any _ (.tmp 3) rfl (w.heap.size + 1) 0 p.row _ rfl R2.out Try.underlying25 rfl (pf_infoC HP.out)) ?_)
    | (go_at_call 55; refine (HR.out _).mono ?_; rintro e w1 ⟨rfl, b1⟩; refine Hid.out ?_))
  refine Lib.hid ?_
  have z1 := HZ.out.up b1
  have R3 := Lib.hid (rangeAll z1.1)
  have HZ1 := Lib.hid z1
  clear z1 HZ R1 R2 b1
  go_wp2_with (first
    | (refine plV rfl (tV is six room (.slice a n cap)) (exec_load_any _ (.tmp 2) rfl w.heap.size 0 (tR is six room (.slice a n cap)) _ rfl R3.out Try.underlying31 rfl t_info) ?_)
    | (refine wpList_store_bx rfl 31 (.tmp 4) (.tmp 15) rfl (w.heap.size + 1 + 1) (tR is six room (.slice a n cap)) (tR false false 0 (.slice none 0 0)) rfl rfl HZ1.out.2.2.1 t_info rfl (t_one _ _ _ _ rfl) ?_; refine Hid.out ?_))
  refine Lib.hid ?_
  go_wp2
  have hb := below_row HZ1.out.2.2.2 (show w.heap.size ≤ w.heap.size + 1 + 1 by omega) (tR is six room (.slice a n cap)).toArray
  exact bodyPost_ret (results_t2 Try.results35 _ _ (w.heap.size + 1 + 1) (tR is six room (.slice a n cap)) rfl rfl (HZ1.out.2.2.1.row _)) rfl ⟨⟨a, n, cap, rfl, HC.out.below hb, .inl ⟨rfl, by trivial⟩⟩, hb⟩
set_option maxRecDepth 100000 in
set_option maxHeartbeats 8000000 in
theorem qput_ok (is six : Bool) (room : Int) (a : Option Addr) (n cap : Nat) (L : List (Pfx × Int)) (p : Pfx) (x : Int) (w : World) (hC : IsC itF 19 w (.slice a n cap) L) (hp : p.addr.length = 16) (hl : L.length ≤ 900000) (hr : (is && (chkP p && (p.six == six))) = true) (hf : ¬ (isT cmpP p L = false ∧ (L.length : Int) = room)) :
    Calls Try.prog 33 #[tV is six room (.slice a n cap), p.val, .int .i64 x] w (RefT w a L is six room (putT cmpP p x L) 0) := by
  have HZ := Lib.hid (putB_new w (tR is six room (.slice a n cap)) p)
  have HR := Lib.hid (fun W => qright is six room (.slice a n cap) p W hp)
  rw [hr] at HR
  have ez : (#[.bool false, .bool false, .int .i64 0, .slice none 0 0] : Array Value) = (tR false false 0 (.slice none 0 0)).toArray := rfl
  have HP := Lib.hid hp
  have HC := Lib.hid hC
  have HF := Lib.hid (fun W (hW : Below w.heap.size w W) => qfind a n cap L p W (hC.below hW) hp (by omega))
  have R1 := Lib.hid (rangeAll HZ.out.1)
  have R2 := Lib.hid (rangeAll HZ.out.2.1)
  obtain ⟨rfl, hcap, hcm, _⟩ := hC.shape
  unfold maxLen at hcm
  have hpf := putT_form (c := cmpP) p x L
  have hix := idxT_le (c := cmpP) p L
  have hjT : isT cmpP p L = true → idxT cmpP p L + 1 ≤ L.length := fun h => by
    have h1 := isT_get (c := cmpP) p L
    rw [getT_form, h, if_pos rfl] at h1
    rcases Nat.lt_or_ge (idxT cmpP p L) L.length with h2 | h2
    · omega
    · rw [List.getElem?_eq_none h2] at h1; cases h1
  have HJT := Lib.hid hjT
  clear hjT
  generalize hjj : idxT cmpP p L = j at *
  generalize hbb : isT cmpP p L = ib at *
  have HPF := Lib.hid hpf
  clear hpf hjj hbb
  unfold RefT
  rw [show tV is six room (.slice a L.length cap) = .agg (tR is six room (.slice a L.length cap)).toArray from rfl, show p.val = .agg p.row.toArray from rfl]
  clear hp hC
  go_enter Try.func33, Try.ntmps33
  go_wp2_with (first
    | (refine plV rfl (tV is six room (.slice a L.length cap)) (exec_load_any _ (.tmp 3) rfl w.heap.size 0 (tR is six room (.slice a L.length cap)) _ rfl R1.out Try.underlying31 rfl t_info) ?_)
    | (refine plV rfl p.val (exec_load_any _ (.tmp 4) rfl (w.heap.size + 1) 0 p.row _ rfl R2.out Try.underlying25 rfl (pf_infoC HP.out)) ?_)
    | (go_at_call 55; refine (HR.out _).mono ?_; rintro e w1 ⟨rfl, b1⟩; refine Hid.out ?_))
  refine Lib.hid ?_
  have z1 := HZ.out.up b1
  have R3 := Lib.hid (rangeAll z1.2.1)
  have c3 : w1.cell? ⟨w.heap.size, 3, none⟩ = some (.slice a L.length cap) := by rw [z1.1.cell]; rfl
  have HF1 := Lib.hid (HF.out _ z1.2.2.2)
  clear HZ R1 R2 b1 HF
  go_wp2_with (first
    | (refine plV rfl p.val (exec_load_any _ (.tmp 4) rfl (w.heap.size + 1) 0 p.row _ rfl R3.out Try.underlying25 rfl (pf_infoC HP.out)) ?_)
    | (go_at_call 56; refine HF1.out.mono ?_; rintro e w2 ⟨rfl, b2⟩; refine Hid.out ?_))
  refine Lib.hid ?_
  have z2 := z1.up b2
  clear z1 R3 c3 HF1 b2
  have c3 : w2.cell? ⟨w.heap.size, 3, none⟩ = some (.slice a L.length cap) := by rw [z2.1.cell]; rfl
  have c2 : w2.cell? ⟨w.heap.size, 2, none⟩ = some (.int .i64 room) := by rw [z2.1.cell]; rfl
  have hhf : ib = true ∨ (ib = false ∧ ((L.length : Int) == room) = false) := by
    cases ib
    · exact .inr ⟨rfl, by simpa using fun e => hf ⟨rfl, e⟩⟩
    · exact .inl rfl
  obtain ⟨ti, hti, htz, hts, htb⟩ := info_parts i_infoF
  have hCt := (HC.out.below z2.2.2.2).take j hix
  have htl : (L.take j).length = j := by rw [List.length_take]; omega
  have HCT := Lib.hid hCt
  have HZ2 := Lib.hid z2
  have hws := z2.2.2.2.size
  clear z2 hCt hf
  have stage : ∀ (hq : ib = true ∨ (ib = false ∧ ((L.length : Int) == room) = false)), True := fun _ => trivial
  clear stage
  rcases hhf with rfl | ⟨rfl, hqq⟩
  · have hjl := HJT.out rfl
    go_wp2_with (first
      | (refine plV rfl (.slice a j cap) (exec_slice_to (.tmp 38) (.tmp 39) rfl a L.length cap j rfl rfl (by omega)) ?_)
      | (at_builtin; refine append_flat rfl (.tmp 36) (.tmp 40) 29 rfl w.heap.size 47 ti (itV zeroP 0) 40 Try.underlying29 hti htz hts htb rfl (by decide) (by decide) (.slice none 0 0) 0 [] rfl (World.ownsRow_nil _ _ _ _) a j cap (L.take j) rfl HCT.out (itF_one _) (by rw [htl]; omega) (by omega) ?_; intro v3 W3 hown hgr; refine Hid.out ?_))
    refine Lib.hid ?_
    have z3 := HZ2.out.grown hgr (fun k e => by cases e)
    have hws3 := z3.2.2.2.size
    rw [List.nil_append, Nat.zero_add, htl] at hown
    have R5 := Lib.hid (rangeAll z3.2.1)
    have hbA : Below W3.heap.size W3 (W3.alloc (.cells (itR p x).toArray 47)) := (Below.refl _ _).alloc (Nat.le_refl _) _
    have z4 := z3.up hbA
    have hown4 := own_below hown hbA
    have HO1 := Lib.hid (isC_one (x := (p, x)) HP.out (show Bx (W3.alloc (.cells (itR p x).toArray 47)) W3.heap.size 47 (itF (p, x)) from Bx.new W3 _ _))
    have HOWN4 := Lib.hid hown4
    have HZ4 := Lib.hid z4
    have hws4 := z4.2.2.2.size
    clear hgr HCT HZ2 c2 c3 hown z3 hbA z4 hown4 hws hws3
    go_wp2_with (first
      | (refine plV rfl p.val (exec_load_any _ (.tmp 4) rfl (w.heap.size + 1) 0 p.row _ rfl R5.out Try.underlying25 rfl (pf_infoC HP.out)) ?_)
      | (refine plV rfl (itV p x) (exec_build2 _ 0 1 (.tmp 43) (.tmp 44) rfl p.val (.int .i64 x) (itR p x) rfl rfl (built_i2 p HP.out x)) ?_)
      | (refine plV rfl (.slice (some ⟨W3.heap.size, 0, none⟩) 1 1) (exec_one_i (.tmp 45) rfl p x HP.out rfl) ?_)
      | (at_builtin; refine append_flat rfl (.tmp 42) (.tmp 46) 29 rfl w.heap.size 47 ti (itV zeroP 0) 40 Try.underlying29 hti htz hts htb rfl (by decide) (by decide) v3 j ((L.take j).flatMap itF) rfl HOWN4.out (some ⟨W3.heap.size, 0, none⟩) 1 1 [(p, x)] rfl HO1.out (itF_one _) (by simp; omega) (by omega) ?_; intro v5 W5 hown hgr; refine Hid.out ?_))
    refine Lib.hid ?_
    have z5 := HZ4.out.grown hgr (own_apart HZ4.out HOWN4.out)
    have hws5 := z5.2.2.2.size
    have c3 : W5.cell? ⟨w.heap.size, 3, none⟩ = some (.slice a L.length cap) := by rw [z5.1.cell]; rfl
    rw [show ([(p, x)] : List (Pfx × Int)).length = 1 from rfl] at hown
    obtain ⟨ad, had⟩ : ∃ ad, (if cap = j + 1 then a else a.map (fun x => x.add ((j + 1) * 19))) = ad := ⟨_, rfl⟩
    have hcd := isC_from (HC.out.below z5.2.2.2) (j + 1) (by omega)
    rw [had] at hcd
    have HCD := Lib.hid hcd
    have HAD := Lib.hid had
    clear hcd had
    have hdl : (L.drop (j + 1)).length = L.length - (j + 1) := List.length_drop
    have HOWN5 := Lib.hid hown
    have HZ5 := Lib.hid z5
    clear hgr R5 HO1 HOWN4 HZ4 z5 hown hws4
    go_wp2_with (first
      | (refine plV rfl (.slice ad (L.length - (j + 1)) (cap - (j + 1))) (HAD.out ▸ exec_slice_from (.tmp 53) (.tmp 54) rfl a L.length cap (j + 1) rfl rfl (by omega) hcap) ?_)
      | (at_builtin; refine append_flat rfl (.tmp 51) (.tmp 55) 29 rfl w.heap.size 47 ti (itV zeroP 0) 40 Try.underlying29 hti htz hts htb rfl (by decide) (by decide) v5 (j + 1) ((L.take j).flatMap itF ++ [(p, x)].flatMap itF) rfl HOWN5.out _ _ _ (L.drop (j + 1)) rfl HCD.out (itF_one _) (by rw [hdl]; omega) (by omega) ?_; intro v6 W6 hown hgr; refine Hid.out ?_))
    refine Lib.hid ?_
    have z6 := HZ5.out.grown hgr (own_apart HZ5.out HOWN5.out)
    have hfin : (L.take j).flatMap itF ++ [(p, x)].flatMap itF ++ (L.drop (j + 1)).flatMap itF = (putT cmpP p x L).flatMap itF := by
      rw [HPF.out]
      simp [List.flatMap_append]
    have hflen : j + 1 + (L.drop (j + 1)).length = (putT cmpP p x L).length := by
      rw [HPF.out, List.length_append, htl, List.length_cons]
      simp only [if_true]
      simp only [List.length_drop]
      omega
    rw [hfin, hflen] at hown
    have hok : ∀ y ∈ putT cmpP p x L, (itF y).length = 19 := fun y hy => (put_mem p x L y hy).elim (fun e => by rw [e]; exact it_len HP.out _) (HC.out.1 y)
    obtain ⟨a6, cap6, rfl⟩ := own_slice hown
    have hCn := IsC.of_owned hok hown
    have c36 : W6.cell? ⟨w.heap.size, 3, none⟩ = some (.slice a L.length cap) := by rw [z6.1.cell]; rfl
    have y36 := z6.1.frozen 3
    have hs6 := z6.1.set 3 (.slice a6 (putT cmpP p x L).length cap6)
    rw [show (tR is six room (.slice a L.length cap)).set 3 (.slice a6 (putT cmpP p x L).length cap6) = tR is six room (.slice a6 (putT cmpP p x L).length cap6) from rfl] at hs6
    have hr6 := z6.2.2.1.setOther (k := w.heap.size) (by omega) 3 (.slice a6 (putT cmpP p x L).length cap6)
    have hb6 := z6.2.2.2.setCell (p := ⟨w.heap.size, 3, none⟩) (Nat.le_refl _) (.slice a6 (putT cmpP p x L).length cap6)
    have hT6 : ∀ k, Value.ownBlock (.slice a6 (putT cmpP p x L).length cap6) = some k → k ≠ w.heap.size ∧ k ≠ w.heap.size + 1 + 1 := fun k e => by
      have := own_apart z6 hown k e
      omega
    have hown7 := own_keep (w' := (W6.setCell ⟨w.heap.size, 3, none⟩ (.slice a6 (putT cmpP p x L).length cap6)).setRow (w.heap.size + 1 + 1) (tR is six room (.slice a6 (putT cmpP p x L).length cap6)).toArray) hown (fun k e => (setRow_other _ _ k _ (hT6 k e).2).trans (Below.heap_setCell W6 _ _ k (fun e2 => (hT6 k e).1 e2)))
    have R7 := Lib.hid (rangeAll hs6)
    have H7 := Lib.hid (⟨hr6, hb6, IsC.of_owned hok hown7, fun x e => (own_apart z6 hown x.block (by rw [e]; rfl)).1⟩ : _ ∧ _ ∧ _ ∧ ∀ x : Addr, a6 = some x → w.heap.size ≤ x.block)
    clear hgr HOWN5 HZ5 z6 hown hCn hs6 hr6 hb6 hown7 HCD hT6
    go_wp2_with (first
      | (refine plV rfl (tV is six room (.slice a6 (putT cmpP p x L).length cap6)) (exec_load_any _ (.tmp 3) rfl w.heap.size 0 (tR is six room (.slice a6 (putT cmpP p x L).length cap6)) _ rfl R7.out Try.underlying31 rfl t_info) ?_)
      | (refine wpList_store_bx rfl 31 (.tmp 6) (.tmp 59) rfl (w.heap.size + 1 + 1) (tR is six room (.slice a6 (putT cmpP p x L).length cap6)) (tR false false 0 (.slice none 0 0)) rfl rfl H7.out.1 t_info rfl (t_one _ _ _ _ rfl) ?_; refine Hid.out ?_))
    refine Lib.hid ?_
    go_wp2
    exact bodyPost_ret (results_t2 Try.results33 _ _ (w.heap.size + 1 + 1) (tR is six room (.slice a6 (putT cmpP p x L).length cap6)) rfl rfl (H7.out.1.row _)) rfl ⟨⟨a6, _, cap6, rfl, H7.out.2.2.1, .inr H7.out.2.2.2⟩, below_row H7.out.2.1 (by omega) _⟩
  · go_wp2_with (first
      | (refine plV rfl (.slice a j cap) (exec_slice_to (.tmp 38) (.tmp 39) rfl a L.length cap j rfl rfl (by omega)) ?_)
      | (at_builtin; refine append_flat rfl (.tmp 36) (.tmp 40) 29 rfl w.heap.size 47 ti (itV zeroP 0) 40 Try.underlying29 hti htz hts htb rfl (by decide) (by decide) (.slice none 0 0) 0 [] rfl (World.ownsRow_nil _ _ _ _) a j cap (L.take j) rfl HCT.out (itF_one _) (by rw [htl]; omega) (by omega) ?_; intro v3 W3 hown hgr; refine Hid.out ?_))
    refine Lib.hid ?_
    have z3 := HZ2.out.grown hgr (fun k e => by cases e)
    have hws3 := z3.2.2.2.size
    rw [List.nil_append, Nat.zero_add, htl] at hown
    have R5 := Lib.hid (rangeAll z3.2.1)
    have hbA : Below W3.heap.size W3 (W3.alloc (.cells (itR p x).toArray 47)) := (Below.refl _ _).alloc (Nat.le_refl _) _
    have z4 := z3.up hbA
    have hown4 := own_below hown hbA
    have HO1 := Lib.hid (isC_one (x := (p, x)) HP.out (show Bx (W3.alloc (.cells (itR p x).toArray 47)) W3.heap.size 47 (itF (p, x)) from Bx.new W3 _ _))
    have HOWN4 := Lib.hid hown4
    have HZ4 := Lib.hid z4
    have hws4 := z4.2.2.2.size
    clear hgr HCT HZ2 c2 c3 hown z3 hbA z4 hown4 hws hws3
    go_wp2_with (first
      | (refine plV rfl p.val (exec_load_any _ (.tmp 4) rfl (w.heap.size + 1) 0 p.row _ rfl R5.out Try.underlying25 rfl (pf_infoC HP.out)) ?_)
      | (refine plV rfl (itV p x) (exec_build2 _ 0 1 (.tmp 43) (.tmp 44) rfl p.val (.int .i64 x) (itR p x) rfl rfl (built_i2 p HP.out x)) ?_)
      | (refine plV rfl (.slice (some ⟨W3.heap.size, 0, none⟩) 1 1) (exec_one_i (.tmp 45) rfl p x HP.out rfl) ?_)
      | (at_builtin; refine append_flat rfl (.tmp 42) (.tmp 46) 29 rfl w.heap.size 47 ti (itV zeroP 0) 40 Try.underlying29 hti htz hts htb rfl (by decide) (by decide) v3 j ((L.take j).flatMap itF) rfl HOWN4.out (some ⟨W3.heap.size, 0, none⟩) 1 1 [(p, x)] rfl HO1.out (itF_one _) (by simp; omega) (by omega) ?_; intro v5 W5 hown hgr; refine Hid.out ?_))
    refine Lib.hid ?_
    have z5 := HZ4.out.grown hgr (own_apart HZ4.out HOWN4.out)
    have hws5 := z5.2.2.2.size
    have c3 : W5.cell? ⟨w.heap.size, 3, none⟩ = some (.slice a L.length cap) := by rw [z5.1.cell]; rfl
    rw [show ([(p, x)] : List (Pfx × Int)).length = 1 from rfl] at hown
    obtain ⟨ad, had⟩ : ∃ ad, (if cap = j then a else a.map (fun x => x.add (j * 19))) = ad := ⟨_, rfl⟩
    have hcd := isC_from (HC.out.below z5.2.2.2) j (by omega)
    rw [had] at hcd
    have HCD := Lib.hid hcd
    have HAD := Lib.hid had
    clear hcd had
    have hdl : (L.drop j).length = L.length - j := List.length_drop
    have HOWN5 := Lib.hid hown
    have HZ5 := Lib.hid z5
    clear hgr R5 HO1 HOWN4 HZ4 z5 hown hws4
    go_wp2_with (first
      | (refine plV rfl (.slice ad (L.length - j) (cap - j)) (HAD.out ▸ exec_slice_from (.tmp 53) (.tmp 54) rfl a L.length cap j rfl rfl (by omega) hcap) ?_)
      | (at_builtin; refine append_flat rfl (.tmp 51) (.tmp 55) 29 rfl w.heap.size 47 ti (itV zeroP 0) 40 Try.underlying29 hti htz hts htb rfl (by decide) (by decide) v5 (j + 1) ((L.take j).flatMap itF ++ [(p, x)].flatMap itF) rfl HOWN5.out _ _ _ (L.drop (j)) rfl HCD.out (itF_one _) (by rw [hdl]; omega) (by omega) ?_; intro v6 W6 hown hgr; refine Hid.out ?_))
    refine Lib.hid ?_
    have z6 := HZ5.out.grown hgr (own_apart HZ5.out HOWN5.out)
    have hfin : (L.take j).flatMap itF ++ [(p, x)].flatMap itF ++ (L.drop j).flatMap itF = (putT cmpP p x L).flatMap itF := by
      rw [HPF.out]
      simp [List.flatMap_append]
    have hflen : j + 1 + (L.drop j).length = (putT cmpP p x L).length := by
      rw [HPF.out, List.length_append, htl, List.length_cons]
      simp only [Bool.false_eq_true, if_false]
      simp only [List.length_drop]
      omega
    rw [hfin, hflen] at hown
    have hok : ∀ y ∈ putT cmpP p x L, (itF y).length = 19 := fun y hy => (put_mem p x L y hy).elim (fun e => by rw [e]; exact it_len HP.out _) (HC.out.1 y)
    obtain ⟨a6, cap6, rfl⟩ := own_slice hown
    have hCn := IsC.of_owned hok hown
    have c36 : W6.cell? ⟨w.heap.size, 3, none⟩ = some (.slice a L.length cap) := by rw [z6.1.cell]; rfl
    have y36 := z6.1.frozen 3
    have hs6 := z6.1.set 3 (.slice a6 (putT cmpP p x L).length cap6)
    rw [show (tR is six room (.slice a L.length cap)).set 3 (.slice a6 (putT cmpP p x L).length cap6) = tR is six room (.slice a6 (putT cmpP p x L).length cap6) from rfl] at hs6
    have hr6 := z6.2.2.1.setOther (k := w.heap.size) (by omega) 3 (.slice a6 (putT cmpP p x L).length cap6)
    have hb6 := z6.2.2.2.setCell (p := ⟨w.heap.size, 3, none⟩) (Nat.le_refl _) (.slice a6 (putT cmpP p x L).length cap6)
    have hT6 : ∀ k, Value.ownBlock (.slice a6 (putT cmpP p x L).length cap6) = some k → k ≠ w.heap.size ∧ k ≠ w.heap.size + 1 + 1 := fun k e => by
      have := own_apart z6 hown k e
      omega
    have hown7 := own_keep (w' := (W6.setCell ⟨w.heap.size, 3, none⟩ (.slice a6 (putT cmpP p x L).length cap6)).setRow (w.heap.size + 1 + 1) (tR is six room (.slice a6 (putT cmpP p x L).length cap6)).toArray) hown (fun k e => (setRow_other _ _ k _ (hT6 k e).2).trans (Below.heap_setCell W6 _ _ k (fun e2 => (hT6 k e).1 e2)))
    have R7 := Lib.hid (rangeAll hs6)
    have H7 := Lib.hid (⟨hr6, hb6, IsC.of_owned hok hown7, fun x e => (own_apart z6 hown x.block (by rw [e]; rfl)).1⟩ : _ ∧ _ ∧ _ ∧ ∀ x : Addr, a6 = some x → w.heap.size ≤ x.block)
    clear hgr HOWN5 HZ5 z6 hown hCn hs6 hr6 hb6 hown7 HCD hT6
    go_wp2_with (first
      | (refine plV rfl (tV is six room (.slice a6 (putT cmpP p x L).length cap6)) (exec_load_any _ (.tmp 3) rfl w.heap.size 0 (tR is six room (.slice a6 (putT cmpP p x L).length cap6)) _ rfl R7.out Try.underlying31 rfl t_info) ?_)
      | (refine wpList_store_bx rfl 31 (.tmp 6) (.tmp 59) rfl (w.heap.size + 1 + 1) (tR is six room (.slice a6 (putT cmpP p x L).length cap6)) (tR false false 0 (.slice none 0 0)) rfl rfl H7.out.1 t_info rfl (t_one _ _ _ _ rfl) ?_; refine Hid.out ?_))
    refine Lib.hid ?_
    go_wp2
    exact bodyPost_ret (results_t2 Try.results33 _ _ (w.heap.size + 1 + 1) (tR is six room (.slice a6 (putT cmpP p x L).length cap6)) rfl rfl (H7.out.1.row _)) rfl ⟨⟨a6, _, cap6, rfl, H7.out.2.2.1, .inr H7.out.2.2.2⟩, below_row H7.out.2.1 (by omega) _⟩
set_option maxRecDepth 100000 in
set_option maxHeartbeats 8000000 in
theorem qdel_some (is six : Bool) (room : Int) (a : Option Addr) (n cap : Nat) (L : List (Pfx × Int)) (p : Pfx) (w : World) (hC : IsC itF 19 w (.slice a n cap) L) (hp : p.addr.length = 16) (hl : L.length ≤ 900000) (hr : (is && (chkP p && (p.six == six))) = true) (hi : isT cmpP p L = true) :
    Calls Try.prog 35 #[tV is six room (.slice a n cap), p.val] w (RefT w a L is six room (delT cmpP p L) 0) := by
  have HZ := Lib.hid (putB_new w (tR is six room (.slice a n cap)) p)
  have HR := Lib.hid (fun W => qright is six room (.slice a n cap) p W hp)
  rw [hr] at HR
  have ez : (#[.bool false, .bool false, .int .i64 0, .slice none 0 0] : Array Value) = (tR false false 0 (.slice none 0 0)).toArray := rfl
  have HP := Lib.hid hp
  have HC := Lib.hid hC
  have HF := Lib.hid (fun W (hW : Below w.heap.size w W) => qfind a n cap L p W (hC.below hW) hp (by omega))
  have R1 := Lib.hid (rangeAll HZ.out.1)
  have R2 := Lib.hid (rangeAll HZ.out.2.1)
  obtain ⟨rfl, hcap, hcm, _⟩ := hC.shape
  unfold maxLen at hcm
  rw [hi] at HF
  have hpf := delT_form (c := cmpP) p L
  rw [hi, if_pos rfl] at hpf
  have hjl : idxT cmpP p L + 1 ≤ L.length := by
    have h1 := isT_get (c := cmpP) p L
    rw [getT_form, hi, if_pos rfl] at h1
    rcases Nat.lt_or_ge (idxT cmpP p L) L.length with h2 | h2
    · omega
    · rw [List.getElem?_eq_none h2] at h1; cases h1
  generalize hjj : idxT cmpP p L = j at *
  have HPF := Lib.hid hpf
  clear hpf hjj
  unfold RefT
  rw [show tV is six room (.slice a L.length cap) = .agg (tR is six room (.slice a L.length cap)).toArray from rfl, show p.val = .agg p.row.toArray from rfl]
  clear hp hC
  go_enter Try.func35, Try.ntmps35
  go_wp2_with (first
    | (refine plV rfl (tV is six room (.slice a L.length cap)) (exec_load_any _ (.tmp 2) rfl w.heap.size 0 (tR is six room (.slice a L.length cap)) _ rfl R1.out Try.underlying31 rfl t_info) ?_)
    | (refine plV rfl p.val (exec_load_any _ (.tmp 3) rfl (w.heap.size + 1) 0 p.row _ rfl R2.out Try.underlying25 rfl (pf_infoC HP.out)) ?_)
    | (go_at_call 55; refine (HR.out _).mono ?_; rintro e w1 ⟨rfl, b1⟩; refine Hid.out ?_))
  refine Lib.hid ?_
  have z1 := HZ.out.up b1
  have R3 := Lib.hid (rangeAll z1.2.1)
  have c3 : w1.cell? ⟨w.heap.size, 3, none⟩ = some (.slice a L.length cap) := by rw [z1.1.cell]; rfl
  have HF1 := Lib.hid (HF.out _ z1.2.2.2)
  clear HZ R1 R2 b1 HF
  go_wp2_with (first
    | (refine plV rfl p.val (exec_load_any _ (.tmp 3) rfl (w.heap.size + 1) 0 p.row _ rfl R3.out Try.underlying25 rfl (pf_infoC HP.out)) ?_)
    | (go_at_call 56; refine HF1.out.mono ?_; rintro e w2 ⟨rfl, b2⟩; refine Hid.out ?_))
  refine Lib.hid ?_
  have z2 := z1.up b2
  clear z1 R3 c3 HF1 b2
  have c3 : w2.cell? ⟨w.heap.size, 3, none⟩ = some (.slice a L.length cap) := by rw [z2.1.cell]; rfl
  obtain ⟨ti, hti, htz, hts, htb⟩ := info_parts i_infoF
  have hCt := (HC.out.below z2.2.2.2).take j (by omega)
  have htl : (L.take j).length = j := by rw [List.length_take]; omega
  have HCT := Lib.hid hCt
  have HZ2 := Lib.hid z2
  have hws := z2.2.2.2.size
  clear z2 hCt
  go_wp2_with (first
    | (refine plV rfl (.slice a j cap) (exec_slice_to (.tmp 28) (.tmp 29) rfl a L.length cap j rfl rfl (by omega)) ?_)
    | (at_builtin; refine append_flat rfl (.tmp 26) (.tmp 30) 29 rfl w.heap.size 47 ti (itV zeroP 0) 40 Try.underlying29 hti htz hts htb rfl (by decide) (by decide) (.slice none 0 0) 0 [] rfl (World.ownsRow_nil _ _ _ _) a j cap (L.take j) rfl HCT.out (itF_one _) (by rw [htl]; omega) (by omega) ?_; intro v5 W5 hown hgr; refine Hid.out ?_))
  refine Lib.hid ?_
  have z5 := HZ2.out.grown hgr (fun k e => by cases e)
  have hws5 := z5.2.2.2.size
  rw [List.nil_append, Nat.zero_add, htl] at hown
  clear c3
  have c3 : W5.cell? ⟨w.heap.size, 3, none⟩ = some (.slice a L.length cap) := by rw [z5.1.cell]; rfl
  obtain ⟨ad, had⟩ : ∃ ad, (if cap = j + 1 then a else a.map (fun x => x.add ((j + 1) * 19))) = ad := ⟨_, rfl⟩
  have hcd := isC_from (HC.out.below z5.2.2.2) (j + 1) (by omega)
  rw [had] at hcd
  have HCD := Lib.hid hcd
  have HAD := Lib.hid had
  clear hcd had
  have hdl : (L.drop (j + 1)).length = L.length - (j + 1) := List.length_drop
  have HOWN5 := Lib.hid hown
  have HZ5 := Lib.hid z5
  clear hgr HZ2 HCT z5 hown hws
  go_wp2_with (first
    | (refine plV rfl (.slice ad (L.length - (j + 1)) (cap - (j + 1))) (HAD.out ▸ exec_slice_from (.tmp 34) (.tmp 36) rfl a L.length cap (j + 1) rfl rfl (by omega) hcap) ?_)
    | (at_builtin; refine append_flat rfl (.tmp 32) (.tmp 37) 29 rfl w.heap.size 47 ti (itV zeroP 0) 40 Try.underlying29 hti htz hts htb rfl (by decide) (by decide) v5 j ((L.take j).flatMap itF) rfl HOWN5.out _ _ _ (L.drop (j + 1)) rfl HCD.out (itF_one _) (by rw [hdl]; omega) (by omega) ?_; intro v6 W6 hown hgr; refine Hid.out ?_))
  refine Lib.hid ?_
  have z6 := HZ5.out.grown hgr (own_apart HZ5.out HOWN5.out)
  have hfin : (L.take j).flatMap itF ++ (L.drop (j + 1)).flatMap itF = (delT cmpP p L).flatMap itF := by
    rw [HPF.out]
    simp [List.flatMap_append]
  have hflen : j + (L.drop (j + 1)).length = (delT cmpP p L).length := by
    rw [HPF.out, List.length_append, htl]
  rw [hfin, hflen] at hown
  have hok : ∀ y ∈ delT cmpP p L, (itF y).length = 19 := fun y hy => HC.out.1 y (del_mem p L y hy)
  obtain ⟨a6, cap6, rfl⟩ := own_slice hown
  have hCn := IsC.of_owned hok hown
  have c36 : W6.cell? ⟨w.heap.size, 3, none⟩ = some (.slice a L.length cap) := by rw [z6.1.cell]; rfl
  have y36 := z6.1.frozen 3
  have hs6 := z6.1.set 3 (.slice a6 (delT cmpP p L).length cap6)
  rw [show (tR is six room (.slice a L.length cap)).set 3 (.slice a6 (delT cmpP p L).length cap6) = tR is six room (.slice a6 (delT cmpP p L).length cap6) from rfl] at hs6
  have hr6 := z6.2.2.1.setOther (k := w.heap.size) (by omega) 3 (.slice a6 (delT cmpP p L).length cap6)
  have hb6 := z6.2.2.2.setCell (p := ⟨w.heap.size, 3, none⟩) (Nat.le_refl _) (.slice a6 (delT cmpP p L).length cap6)
  have hT6 : ∀ k, Value.ownBlock (.slice a6 (delT cmpP p L).length cap6) = some k → k ≠ w.heap.size ∧ k ≠ w.heap.size + 1 + 1 := fun k e => by
    have := own_apart z6 hown k e
    omega
  have hown7 := own_keep (w' := (W6.setCell ⟨w.heap.size, 3, none⟩ (.slice a6 (delT cmpP p L).length cap6)).setRow (w.heap.size + 1 + 1) (tR is six room (.slice a6 (delT cmpP p L).length cap6)).toArray) hown (fun k e => (setRow_other _ _ k _ (hT6 k e).2).trans (Below.heap_setCell W6 _ _ k (fun e2 => (hT6 k e).1 e2)))
  have R7 := Lib.hid (rangeAll hs6)
  have H7 := Lib.hid (⟨hr6, hb6, IsC.of_owned hok hown7, fun x e => (own_apart z6 hown x.block (by rw [e]; rfl)).1⟩ : _ ∧ _ ∧ _ ∧ ∀ x : Addr, a6 = some x → w.heap.size ≤ x.block)
  clear hgr HOWN5 HZ5 z6 hown hCn hs6 hr6 hb6 hown7 HCD hT6
  go_wp2_with (first
    | (refine plV rfl (tV is six room (.slice a6 (delT cmpP p L).length cap6)) (exec_load_any _ (.tmp 2) rfl w.heap.size 0 (tR is six room (.slice a6 (delT cmpP p L).length cap6)) _ rfl R7.out Try.underlying31 rfl t_info) ?_)
    | (refine wpList_store_bx rfl 31 (.tmp 4) (.tmp 41) rfl (w.heap.size + 1 + 1) (tR is six room (.slice a6 (delT cmpP p L).length cap6)) (tR false false 0 (.slice none 0 0)) rfl rfl H7.out.1 t_info rfl (t_one _ _ _ _ rfl) ?_; refine Hid.out ?_))
  refine Lib.hid ?_
  go_wp2
  exact bodyPost_ret (results_t2 Try.results35 _ _ (w.heap.size + 1 + 1) (tR is six room (.slice a6 (delT cmpP p L).length cap6)) rfl rfl (H7.out.1.row _)) rfl ⟨⟨a6, _, cap6, rfl, H7.out.2.2.1, .inr H7.out.2.2.2⟩, below_row H7.out.2.1 (by omega) _⟩
end Go.Proofs.Ytgimcapcnidjjaa
namespace Go.Proofs.Ytgimcapcnidjjaa
open Go Go.RowKit

def rdelE (is six : Bool) (L : List (Pfx × Int)) (p : Pfx) : Int := if (is && (chkP p && (p.six == six))) = true then (if isT cmpP p L = false then 31 else 0) else 1
def rdelL (is six : Bool) (L : List (Pfx × Int)) (p : Pfx) : List (Pfx × Int) := if rdelE is six L p = 0 then delT cmpP p L else L
theorem qput_any (is six : Bool) (room : Int) (a : Option Addr) (n cap : Nat) (L : List (Pfx × Int)) (p : Pfx) (x : Int) (w : World) (hC : IsC itF 19 w (.slice a n cap) L) (hp : p.addr.length = 16) (hl : L.length ≤ 900000) :
    Calls Try.prog 33 #[tV is six room (.slice a n cap), p.val, .int .i64 x] w (RefT w a L is six room (rputL is six room L p x) (rputE is six room L p)) := by
  unfold rputL rputE
  cases hr : (is && (chkP p && (p.six == six))) with
  | false =>
    rw [if_neg (show ¬ (false = true) by simp), if_neg (show ¬ ((1 : Int) = 0) by omega)]
    exact qput_no is six room a n cap L p x w hC hp hr
  | true =>
    rw [if_pos rfl]
    by_cases hf : isT cmpP p L = false ∧ (L.length : Int) = room
    · rw [if_pos hf, if_neg (show ¬ ((30 : Int) = 0) by omega)]
      exact qput_full is six room a n cap L p x w hC hp hl hr hf.1 hf.2
    · rw [if_neg hf, if_pos rfl]
      exact qput_ok is six room a n cap L p x w hC hp hl hr hf
theorem qdel_any (is six : Bool) (room : Int) (a : Option Addr) (n cap : Nat) (L : List (Pfx × Int)) (p : Pfx) (w : World) (hC : IsC itF 19 w (.slice a n cap) L) (hp : p.addr.length = 16) (hl : L.length ≤ 900000) :
    Calls Try.prog 35 #[tV is six room (.slice a n cap), p.val] w (RefT w a L is six room (rdelL is six L p) (rdelE is six L p)) := by
  unfold rdelL rdelE
  cases hr : (is && (chkP p && (p.six == six))) with
  | false =>
    rw [if_neg (show ¬ (false = true) by simp), if_neg (show ¬ ((1 : Int) = 0) by omega)]
    exact qdel_no is six room a n cap L p w hC hp hr
  | true =>
    rw [if_pos rfl]
    cases hf : isT cmpP p L with
    | false =>
      rw [if_pos rfl, if_neg (show ¬ ((31 : Int) = 0) by omega)]
      exact qdel_none is six room a n cap L p w hC hp hl hr hf
    | true =>
      rw [if_neg (show ¬ (true = false) by simp), if_pos rfl]
      exact qdel_some is six room a n cap L p w hC hp hl hr hf
/-- One step of a script. -/
def doE (k : Int) (is six : Bool) (room : Int) (L : List (Pfx × Int)) (p : Pfx) : Int := if k = 0 then rputE is six room L p else if k = 1 then rdelE is six L p else 0
def doL (k : Int) (is six : Bool) (room : Int) (L : List (Pfx × Int)) (p : Pfx) (x : Int) : List (Pfx × Int) := if k = 0 then rputL is six room L p x else if k = 1 then rdelL is six L p else L
theorem isC_row {W : World} {a : Option Addr} {n cap : Nat} {L : List (Pfx × Int)} (h : IsC itF 19 W (.slice a n cap) L) (g : Nat) (cs : Array Value) (hg : 0 < L.length → ∀ x, a = some x → x.block ≠ g) : IsC itF 19 (W.setRow g cs) (.slice a n cap) L := by
  obtain ⟨h0, a', cap', e, h1, h2, h3⟩ := h
  simp only [Value.slice.injEq] at e
  obtain ⟨rfl, rfl, rfl⟩ := e
  refine ⟨h0, _, _, rfl, h1, h2, fun hp => ?_⟩
  obtain ⟨b, k, rfl, hlt, hc⟩ := h3 hp
  refine ⟨b, k, rfl, by simpa using hlt, fun j v hj => ?_⟩
  have := setRow_other W g b cs (hg hp _ rfl)
  have e2 : (W.setRow g cs).cell? ⟨b, k + j, none⟩ = W.cell? ⟨b, k + j, none⟩ := by
    unfold World.cell?
    rw [this]
  exact e2.trans (hc j v hj)
end Go.Proofs.Ytgimcapcnidjjaa

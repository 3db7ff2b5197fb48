/- The live examples of layer 7's statements hold. -/
import Derived.Test.YteomoipbjkafgaaDoorColD
namespace Go.Proofs.YteomoipbjkafgaaDoor
open Go Go.RowKit

def exA : List UInt8 := [0, 0, 0, 0, 0, 0, 0, 0, 0, 0, 255, 255, 10, 0, 0, 1]
def exB : List UInt8 := [0, 1, 0, 0, 0, 0, 0, 2, 0, 0, 0, 0, 0, 0, 0, 3]
theorem ex7_a : colV [58, 58, 70, 70, 70, 70, 58, 49, 48, 46, 48, 46, 48, 46, 49] = some [0, 0, 0, 0, 0, 65535, 2560, 1] := by decide +kernel
theorem ex7_b : colV [49, 58, 48, 58, 48, 58, 50, 58, 58, 51] = some [1, 0, 0, 2, 0, 0, 0, 3] := by decide +kernel
theorem ex7_c : colV [49, 58, 58, 50, 58, 58, 51] = none := by decide +kernel
theorem ex7_aA : colA [58, 58, 70, 70, 70, 70, 58, 49, 48, 46, 48, 46, 48, 46, 49] = exA := by rw [colA_yes ex7_a]; decide +kernel
theorem ex7_bA : colA [49, 58, 48, 58, 48, 58, 50, 58, 58, 51] = exB := by rw [colA_yes ex7_b]; decide +kernel
theorem ex7_sa : showA exA = [58, 58, 102, 102, 102, 102, 58, 97, 48, 48, 58, 49] := by decide +kernel
theorem ex7_sb : showA exB = [49, 58, 48, 58, 48, 58, 50, 58, 58, 51] := by decide +kernel
theorem ex7_s0 : showA (List.replicate 16 0) = [58, 58] := by decide +kernel
theorem ex7_g : natsI (grpN exB) = [1, 0, 0, 2, 0, 0, 0, 3] := by decide +kernel
theorem ex7_p : plain7 exA = true ∧ multi7 exA = false ∧ multi7 [255, 0, 0, 0, 0, 0, 0, 0, 0, 0, 0, 0, 0, 0, 0, 0] = true := by decide +kernel
/-- What is held while the examples run. -/
def AwS (w : World) (ga gb : Nat) (W : World) : Prop := ArrT 22 W ga exA ∧ ArrT 22 W gb exB ∧ Env W ∧ Below w.heap.size w W
theorem AwS.up {w : World} {ga gb : Nat} {W W' : World} (h : AwS w ga gb W) (hb : Below W.heap.size W W') : AwS w ga gb W' := ⟨h.1.up hb, h.2.1.up hb, h.2.2.1.up hb, below_up h.2.2.2 hb h.2.2.2.size⟩
theorem wpList_eql_intGB {ops : Array Oper} {rest : List Oper} {o : Oper} {a : Act} {w : World} {Q : Exit → Act → World → Prop} {t : TypeId} {n : Nat} (hw : Region.wanted o (yielded ops a.tmps) = true) (ht : IsInts t n) (x y : Operand) (ty : TypeId) (ho : o.op = .binOp .eql t x y ty) (l m : List Int) (hl : l.length = n) (hm : m.length = n) (b : Bool) (hb : decide (l = m) = b) (hx : a.eval x = intV l) (hy : a.eval y = intV m)
    (hR : wpList Tryd.prog ops Q rest (a.put o.dst (.bool b)) w) : wpList Tryd.prog ops Q (o :: rest) a w := by
  subst hb
  exact wpList_wanted hw fun K hK => by
    unfold Oper.wp
    rw [exec_eql_int ht x y ty ho l m hl hm hx hy]
    exact hK _ _ hR
theorem exA_len : exA.length = 16 := rfl
theorem exB_len : exB.length = 16 := rfl
set_option maxRecDepth 100000 in
set_option maxHeartbeats 8000000 in
theorem awake7_any (w : World) (hE : Env w) :
    Calls Tryd.prog 8 #[] w fun r w' => r = .returned (.bool true) ∧ Below w.heap.size w w' := by
  have h1 := fun W h => parse_any ⟨#[58, 58, 70, 70, 70, 70, 58, 49, 48, 46, 48, 46, 48, 46, 49]⟩ [58, 58, 70, 70, 70, 70, 58, 49, 48, 46, 48, 46, 48, 46, 49] rfl W h (by decide)
  rw [ex7_a, ex7_aA] at h1
  have h2 := fun W h => parse_any ⟨#[49, 58, 48, 58, 48, 58, 50, 58, 58, 51]⟩ [49, 58, 48, 58, 48, 58, 50, 58, 58, 51] rfl W h (by decide)
  rw [ex7_b, ex7_bA] at h2
  have h3 := fun W h => parse_any ⟨#[49, 58, 58, 50, 58, 58, 51]⟩ [49, 58, 58, 50, 58, 58, 51] rfl W h (by decide)
  rw [ex7_c, colA_no ex7_c] at h3
  have h4 := fun W h => show_any exA W h exA_len
  rw [ex7_sa] at h4
  have h5 := fun W h => show_any exB W h exB_len
  rw [ex7_sb] at h5
  have h6 := fun W h => show_any (List.replicate 16 0) W h rfl
  rw [ex7_s0] at h6
  have h7 := fun W => groups_any exB W exB_len
  rw [ex7_g] at h7
  have h8 := fun W => cplain_any exA W exA_len
  rw [ex7_p.1] at h8
  have h9 := fun W => cmulti_any exA W exA_len
  rw [ex7_p.2.1] at h9
  have h10 := fun W => cmulti_any [255, 0, 0, 0, 0, 0, 0, 0, 0, 0, 0, 0, 0, 0, 0, 0] W rfl
  rw [ex7_p.2.2] at h10
  have H1 := Lib.hid h1
  have H2 := Lib.hid h2
  have H3 := Lib.hid h3
  have H4 := Lib.hid h4
  have H5 := Lib.hid h5
  have H6 := Lib.hid h6
  have H7 := Lib.hid h7
  have H8 := Lib.hid h8
  have H9 := Lib.hid h9
  have H10 := Lib.hid h10
  have HE := Lib.hid hE
  have HXA := Lib.hid exA_len
  have HXB := Lib.hid exB_len
  clear h1 h2 h3 h4 h5 h6 h7 h8 h9 h10 hE
  go_enter Tryd.func8, Tryd.ntmps8
  go_wp2_with (go_at_call 17; refine (H1.out _ HE.out).mono ?_; rintro e w1 ⟨rfl, b1⟩; refine Hid.out ?_)
  refine Lib.hid ?_
  have a1 : ArrT 22 (w1.alloc (.cells (byteVals exA).toArray 22)) w1.heap.size exA ∧ Env (w1.alloc (.cells (byteVals exA).toArray 22)) ∧ Below w.heap.size w (w1.alloc (.cells (byteVals exA).toArray 22)) := ⟨arrT_new w1 _, (HE.out.up b1).up ((Below.refl _ _).alloc (Nat.le_refl _) _), b1.alloc b1.size _⟩
  have A1 := Lib.hid a1
  clear a1 b1 H1 HE
  go_wp2_with (first | (refine wpList_store_newT rfl (.tmp 1) (.tmp 9) rfl exA arr16 _ rfl rfl rfl ?_) | (go_at_call 17; refine (H2.out _ A1.out.2.1).mono ?_; rintro e w2 ⟨rfl, b2⟩; refine Hid.out ?_))
  refine Lib.hid ?_
  have a2 : AwS w w1.heap.size w2.heap.size (w2.alloc (.cells (byteVals exB).toArray 22)) := by
    have hb2 := below_up A1.out.2.2 b2 A1.out.2.2.size
    exact ⟨(A1.out.1.up b2).allocO _, arrT_new w2 _, (A1.out.2.1.up b2).up ((Below.refl _ _).alloc (Nat.le_refl _) _), hb2.alloc hb2.size _⟩
  have A2 := Lib.hid a2
  clear a2 b2 H2 A1
  go_wp2_with (first | (refine wpList_store_newT rfl (.tmp 3) (.tmp 13) rfl exB arr16 _ rfl rfl rfl ?_) | (go_at_call 17; refine (H3.out _ A2.out.2.2.1).mono ?_; rintro e w3 ⟨rfl, b3⟩; refine Hid.out ?_))
  refine Lib.hid ?_
  have A3 := Lib.hid (A2.out.up b3)
  generalize w1.heap.size = ga at *
  generalize w2.heap.size = gb at *
  have A4 := Lib.hid (A3.out.up ((Below.refl w3.heap.size w3).alloc (Nat.le_refl _) (.cells (byteVals (List.replicate 16 0)).toArray 22)))
  clear b3 A2 A3 H3
  go_wp2_with (first | (refine wpList_store_newT rfl (.tmp 5) (.tmp 17) rfl (List.replicate 16 0) arr16 _ rfl rfl rfl ?_) | (refine wpList_load_arrG rfl (.tmp 1) rfl ga exA arr16 rfl A4.out.1 ?_) | (go_at_call 9; refine (H4.out _ A4.out.2.2.1).mono ?_; rintro e w4 ⟨rfl, b4⟩; refine Hid.out ?_))
  refine Lib.hid ?_
  have A5 := Lib.hid (A4.out.up b4)
  clear b4 A4 H4
  go_wp2_with (first | (refine wpList_load_arrG rfl (.tmp 3) rfl gb exB arr16 rfl A5.out.2.1 ?_) | (go_at_call 9; refine (H5.out _ A5.out.2.2.1).mono ?_; rintro e w5 ⟨rfl, b5⟩; refine Hid.out ?_))
  refine Lib.hid ?_
  have A6 := Lib.hid (A5.out.up b5)
  clear b5 A5 H5
  rw [show arrV (List.replicate 16 0) = .agg #[.int .u8 0, .int .u8 0, .int .u8 0, .int .u8 0, .int .u8 0, .int .u8 0, .int .u8 0, .int .u8 0, .int .u8 0, .int .u8 0, .int .u8 0, .int .u8 0, .int .u8 0, .int .u8 0, .int .u8 0, .int .u8 0] from rfl] at H6
  go_wp2_with (first | (go_at_call 9; refine (H6.out _ A6.out.2.2.1).mono ?_; rintro e w6 ⟨rfl, b6⟩; refine Hid.out ?_))
  refine Lib.hid ?_
  have A7 := Lib.hid (A6.out.up b6)
  clear b6 A6 H6
  go_wp2_with (first | (refine wpList_load_arrG rfl (.tmp 3) rfl gb exB arr16 rfl A7.out.2.1 ?_) | (go_at_call 11; refine (H7.out _).mono ?_; rintro e w7 ⟨rfl, b7⟩; refine Hid.out ?_))
  refine Lib.hid ?_
  have A8 := Lib.hid (A7.out.up b7)
  clear b7 A7 H7
  go_wp2_with (first | (refine wpList_eql_intGB rfl ints8 (.tmp 44) (.tmp 45) _ rfl [1, 0, 0, 2, 0, 0, 0, 3] [1, 0, 0, 2, 0, 0, 0, 3] rfl rfl true (by decide) rfl rfl ?_) | (refine wpList_load_arrG rfl (.tmp 1) rfl ga exA arr16 rfl A8.out.1 ?_) | (go_at_call 15; refine (H8.out _).mono ?_; rintro e w8 ⟨rfl, b8⟩; refine Hid.out ?_))
  refine Lib.hid ?_
  have A9 := Lib.hid (A8.out.up b8)
  clear b8 A8 H8
  go_wp2_with (first | (refine wpList_load_arrG rfl (.tmp 1) rfl ga exA arr16 rfl A9.out.1 ?_) | (go_at_call 13; refine (H9.out _).mono ?_; rintro e w9 ⟨rfl, b9⟩; refine Hid.out ?_))
  refine Lib.hid ?_
  have A10 := Lib.hid (A9.out.up b9)
  clear b9 A9 H9
  rw [show arrV [255, 0, 0, 0, 0, 0, 0, 0, 0, 0, 0, 0, 0, 0, 0, 0] = .agg #[.int .u8 255, .int .u8 0, .int .u8 0, .int .u8 0, .int .u8 0, .int .u8 0, .int .u8 0, .int .u8 0, .int .u8 0, .int .u8 0, .int .u8 0, .int .u8 0, .int .u8 0, .int .u8 0, .int .u8 0, .int .u8 0] from rfl] at H10
  go_wp2_with (first | (go_at_call 13; refine (H10.out _).mono ?_; rintro e w10 ⟨rfl, b10⟩))
  go_ret
  exact ⟨rfl, (A10.out.up b10).2.2.2⟩
end Go.Proofs.YteomoipbjkafgaaDoor

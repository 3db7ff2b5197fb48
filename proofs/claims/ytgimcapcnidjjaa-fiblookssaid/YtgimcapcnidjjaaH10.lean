/- Helpers of stage 10's laws: a script that is put into a fib. -/
import Derived.Test.YtgimcapcnidjjaaAw10
import Derived.Test.YtgimcapcnidjjaaH9
namespace Go.Proofs.Ytgimcapcnidjjaa
open Go Go.RowKit

/-- What both tables hold when a script's prefixes are put. -/
def putF (room : Int) (l : List Stp) : Bool → List (Pfx × Int) := l.foldl (fun L s => fputL true room L s.p s.v) (fun _ => [])
theorem putF_snoc (room : Int) (l : List Stp) (s : Stp) : putF room (l ++ [s]) = fputL true room (putF room l) s.p s.v := by simp [putF]
theorem FibQ.order1 {W : World} {X : Nat → Prop} {pt : Value} {room : Int} {L : Bool → List (Pfx × Int)} {N : Nat} (h : FibQ W X pt true room L N) (s : Bool) : InOrder cmpP (okP s) (L s) := by
  have := h.order s
  rwa [Bool.and_true] at this
/-- A box, and the tables apart from it. -/
structure RunF (w : World) (t : TypeId) (l : List Value) (pt : Value) (room : Int) (L : Bool → List (Pfx × Int)) (N : Nat) (W : World) : Prop where
  box : Bx W w.heap.size t l
  tab : ∃ X, FibQ W X pt true room L N ∧ ∀ k, X k → w.heap.size + 1 ≤ k
  below : Below w.heap.size w W
section
variable {w W W' : World} {t : TypeId} {l : List Value} {pt : Value} {room : Int} {L : Bool → List (Pfx × Int)} {N : Nat}
theorem RunF.up (h : RunF w t l pt room L N W) (hb : Below W.heap.size W W') : RunF w t l pt room L N W' := by
  obtain ⟨X, h1, h2⟩ := h.tab
  exact ⟨h.box.up hb, ⟨X, h1.up hb, h2⟩, below_up h.below hb h.below.size⟩
theorem RunF.order (h : RunF w t l pt room L N W) (s : Bool) : InOrder cmpP (okP s) (L s) := by
  obtain ⟨X, h1, _⟩ := h.tab
  exact h1.order1 s
theorem RunF.put (h : RunF w t l pt room L N W) (p : Pfx) (x : Int) (hp : p.addr.length = 16) (hN : N ≤ 900000) :
    Calls Try.prog 9 #[pt, p.val, .int .i64 x] W fun e W' => e = .returned (.int .i64 (fputE true room L p)) ∧ RunF w t l pt room (fputL true room L p x) (N + 150) W' := by
  obtain ⟨X, h1, h4⟩ := h.tab
  refine (fput p x W h1 hp hN).mono ?_
  rintro e W' ⟨rfl, X', t1, u1⟩
  have hB := h.box.lt
  refine ⟨rfl, h.box.upd u1 (fun hx => by have := h4 _ hx; omega), ⟨X', t1, fun k hx => ?_⟩, h.below.trans (u1.below w.heap.size h.below.size (fun k hx => by have := h4 k hx; omega))⟩
  rcases u1.sub _ hx with h | h
  · exact h4 k h
  · omega
theorem RunF.above (h : RunF w t l pt room L N W) (p : Pfx) (hp : p.addr.length = 16) (hN : N ≤ 400000) :
    Calls Try.prog 22 #[pt, p.val] W fun e w' => ∃ va vc, e = .returned (.slice va (abvL p (L p.six)).length vc) ∧ IsC itF 19 w' (.slice va (abvL p (L p.six)).length vc) (abvL p (L p.six)) ∧ Below W.heap.size W w' := by
  obtain ⟨X, h1, _⟩ := h.tab
  exact fabove p h1 hN hp
theorem RunF.below' (h : RunF w t l pt room L N W) (p : Pfx) (hp : p.addr.length = 16) (hN : N ≤ 400000) :
    Calls Try.prog 24 #[pt, p.val] W fun e w' => ∃ va vc, e = .returned (.slice va (belL p (L p.six)).length vc) ∧ IsC itF 19 w' (.slice va (belL p (L p.six)).length vc) (belL p (L p.six)) ∧ Below W.heap.size W w' := by
  obtain ⟨X, h1, _⟩ := h.tab
  exact fbelow p h1 hN hp
theorem RunF.all (h : RunF w t l pt room L N W) (hN : N ≤ 400000) :
    Calls Try.prog 20 #[pt] W fun e w' => ∃ va vc, e = .returned (.slice va (kindL L).length vc) ∧ IsC itF 19 w' (.slice va (kindL L).length vc) (kindL L) ∧ Below W.heap.size W w' := by
  obtain ⟨X, h1, _⟩ := h.tab
  exact fall h1 hN
theorem RunF.get (h : RunF w t l pt room L N W) (p : Pfx) (hp : p.addr.length = 16) :
    Calls Try.prog 15 #[pt, p.val] W fun e w' => e = .returned (.tuple #[.int .i64 ((getT cmpP p (L p.six)).getD 0), .bool (getT cmpP p (L p.six)).isSome]) ∧ Below W.heap.size W w' := by
  obtain ⟨X, h1, _⟩ := h.tab
  exact fget p W h1 hp
theorem RunF.look (h : RunF w t l pt room L N W) (six : Bool) (a : List UInt8) (ha : a.length = 16) :
    Calls Try.prog 13 #[pt, .bool six, arrV a] W fun e w' => e = .returned (.tuple #[itV ((lookT a (L six)).getD it0).1 ((lookT a (L six)).getD it0).2, .bool (lookT a (L six)).isSome]) ∧ Below W.heap.size W w' := by
  obtain ⟨X, h1, _⟩ := h.tab
  exact flook six a W h1 ha
end
end Go.Proofs.Ytgimcapcnidjjaa

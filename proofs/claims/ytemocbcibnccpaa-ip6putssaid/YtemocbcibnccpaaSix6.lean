/- Package ip6: Put whole; what is told of a packet that was put. -/
import Derived.Test.YtemocbcibnccpaaSix5
namespace Go.Proofs.Ytemocbcibnccpaa
open Go Go.RowKit

set_option maxHeartbeats 1000000 in
theorem put6_long (h : Hdr6) (a : Option Addr) (n cap : Nat) (body : List UInt8) (w : World) (f0 : 0 ≤ h.flow) (f1 : h.flow ≤ 1048575) (hv : IsB w (.slice a n cap) body) (hlim : body.length ≤ 500000) (hall : 65535 < 40 + body.length) :
    Calls Try.prog 12 #[h.val, .slice a n cap] w fun r w' => r = .returned (.tuple #[.slice none 0 0, .int .i64 13]) ∧ Below w.heap.size w w' := by
  obtain ⟨rfl, hv1, hv2, -⟩ := hv.cells
  have c1 : (w.alloc (.cells h.cells 26)).cell? ⟨w.heap.size, 1, none⟩ = some (.int .i64 h.flow) := hdr6_cell (heap_alloc_new w _) 1
  rw [show h.val = .agg h.cells from rfl]
  clear hv
  generalize h.flow = O at *
  go_enter Try.func12, Try.ntmps12
  go_wp2
  go_ret2
  exact ⟨rfl, (Below.refl _ _).alloc (Nat.le_refl _) _⟩

/-- Is the header one that may be put? -/
def Hdr6.okB (h : Hdr6) : Bool := decide (0 ≤ h.flow ∧ h.flow ≤ 1048575)
def putC6 (h : Hdr6) (n : Nat) : Int := if h.okB then (if 40 + n ≤ 65535 then 0 else 13) else 1
def putP6 (h : Hdr6) (body : List UInt8) : List UInt8 := if h.okB then (if 40 + body.length ≤ 65535 then put6 h body else []) else []
theorem Hdr6.fit_of {h : Hdr6} (f : h.wide) (ho : h.okB = true) : h.fit := by
  have := of_decide_eq_true ho
  exact ⟨this.1, this.2, f.s, f.d⟩
theorem Hdr6.fit.ok {h : Hdr6} (f : h.fit) : h.okB = true := decide_eq_true ⟨f.f0, f.f1⟩
theorem Hdr6.fit.wide {h : Hdr6} (f : h.fit) : h.wide := ⟨f.s, f.d⟩
theorem put6_any (h : Hdr6) (f : h.wide) (a : Option Addr) (n cap : Nat) (body : List UInt8) (w : World) (hv : IsB w (.slice a n cap) body) (hlim : body.length ≤ 500000) :
    Calls Try.prog 12 #[h.val, .slice a n cap] w fun r w' => (∃ a' n' cap', r = .returned (.tuple #[.slice a' n' cap', .int .i64 (putC6 h body.length)]) ∧ IsB w' (.slice a' n' cap') (putP6 h body)) ∧ Below w.heap.size w w' := by
  unfold putC6 putP6
  cases ho : h.okB
  · simp only [Bool.false_eq_true, if_false]
    have hn := of_decide_eq_false ho
    refine (put6_arg h _ w (by omega)).mono ?_
    rintro r w' ⟨rfl, hb⟩
    exact ⟨⟨_, _, _, rfl, IsB.nil _⟩, hb⟩
  · simp only [if_true]
    have hf := Hdr6.fit_of f ho
    by_cases hl : 40 + body.length ≤ 65535
    · rw [if_pos hl, if_pos hl]
      refine (put6_own h a n cap body w hf hv hl).mono ?_
      rintro r w' ⟨⟨v, rfl, ho⟩, hb⟩
      obtain ⟨g, c', rfl, _, _⟩ := own_form ho (by rw [put6_length hf]; omega)
      have hi := IsB.of_owned ho
      exact ⟨⟨_, _, _, rfl, hi⟩, hb⟩
    · rw [if_neg hl, if_neg hl]
      refine (put6_long h a n cap body w hf.f0 hf.f1 hv hlim (by omega)).mono ?_
      rintro r w' ⟨rfl, hb⟩
      exact ⟨⟨_, _, _, rfl, IsB.nil _⟩, hb⟩

theorem pkt6_told {h : Hdr6} (f : h.fit) (body m : List UInt8) (ha : body.length ≤ 65535) :
    ip6C (put6 h body ++ m) = 0 ∧ ip6H (put6 h body ++ m) = { h with len := (body.length : Int) } ∧ ip6B (put6 h body ++ m) = body ∧ ∀ t, ttlA6 (put6 h body ++ m) t = put6 { h with ttl := t } body ++ m := by
  obtain ⟨h1, h2, h3⟩ := ip6_put f body m ha
  refine ⟨h1, by unfold ip6H; rw [if_pos h1]; exact h2, h3, fun t => ?_⟩
  unfold ttlA6
  rw [if_pos h1]
  exact ttl6_put h body m t
end Go.Proofs.Ytemocbcibnccpaa

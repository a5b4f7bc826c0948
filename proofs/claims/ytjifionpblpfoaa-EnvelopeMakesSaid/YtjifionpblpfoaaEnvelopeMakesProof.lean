/-
  The statement EnvelopeMakes holds: any order under any pad is the envelope that layer 16's chapter says, and any envelope opens, under any pad, to the order that it says, or there is its error. Conditions: none beyond the row's own.
-/
import Derived.Test.YtjifionpblpfoaaRows
import Derived.Test.YtjifionpblpfoaaMakesPack4
import Derived.WalkKit
import Derived.ProofKit
import Derived.OpenShut
import Derived.ChangeOld
import Derived.Below
import Derived.Lib.SmallJoins
namespace Go.Proofs.Ytjifionpblpfoaa.envelopeMakes
open Go.ChangeShapes Go.WideShapes Go.ChangeAt Go.RowKit
set_option linter.unusedVariables false

theorem own : ownKnob Try.prog.godebug = none := by kernel_rfl
theorem laidOut : laidOutB Try.prog = true := by kernel_rfl
theorem walk (s0 : Int) (n0 f0 x0 k0 c0 : Nat) (l0 : List Nat) (b0 : Option Addr) (hl0 : l0.length = k0) (hc0 : k0 ≤ c0) (wn0 : n0 < 18446744073709551616) (wf0 : f0 < 18446744073709551616) (wx0 : x0 < 18446744073709551616) (q1 t1 : Int) (a1 n1 c1 : Nat) (l1 : List Nat) (b1 : Option Addr) (hl1 : l1.length = n1) (hc1 : n1 ≤ c1) (w1 : a1 < 18446744073709551616) (a2 : Option Addr) (n2 c2 : Nat) (l2 : List Nat) (hl2 : l2.length = n2) (hc2 : n2 ≤ c2) (w : World) (hr0 : Rd w b0 l0) (hr1 : Rd w b1 l1) (hr2 : Rd w a2 l2) :
    Calls Try.prog 3 #[.agg #[.int .i64 s0, .int .u64 (n0 : Int), .int .u64 (f0 : Int), .int .u64 (x0 : Int), .slice b0 k0 c0], .agg #[.int .i64 q1, .int .i64 t1, .int .u64 (a1 : Int), .slice b1 n1 c1], .slice a2 n2 c2] w fun e w' => e = .returned (.bool true) ∧ Below w.heap.size w w' := by
  exact (makes16_walk envMk s0 q1 t1 n0 f0 x0 a1 k0 c0 n1 c1 n2 c2 l0 l1 l2 b0 b1 a2 w hl0 hc0 hr0 hl1 hc1 hr1 hl2 hc2 hr2 wn0 wf0 wx0 w1).mono fun e w' ⟨he, h⟩ => ⟨he, h.below⟩

set_option maxRecDepth 100000 in
theorem lifted (os : Os) (started : os.Started) (H : Type) (enc : TypeId × Value → H) :
    ReturnsInHanded {} Try.checked os 3 .any (Rows.envelopeMakesSpec.pre6 enc Try.prog Try.f3 Rows.envelopeMakesRow.domain false) (Rows.envelopeMakesSpec.post enc Try.prog Try.f3 false true false false) := by
  refine returnsInHanded_of_change (C := Try.checked) own started (by kernel_rfl) Try.func3
    (ChangeSpec.witness6 (enc := enc) (C := Try.checked) false ⟨#[], #[.agg #[.int .i64 0, .int .u64 0, .int .u64 0, .int .u64 0, .slice none 0 0], .agg #[.int .i64 0, .int .i64 0, .int .u64 0, .slice none 0 0], .slice none 0 0], []⟩ 8 (by kernel_rfl) (by kernel_rfl) (by kernel_rfl) (by kernel_rfl)) ?_
  intro W base args ds gs before hval0 hW hcnd _
  have hval : ∀ (j : Nat) t v, Try.f3.params[j]? = some t → args[j]? = some v → Value.okWide Try.prog W .any base t v := hval0
  have hW' := hW
  obtain ⟨p, q, hA0, hV, rfl, hfz, hnd⟩ := hW
  have hA : DataW.TrodAll enc Try.prog W 0 (fun _ => true) true Try.f3.params.toList args.toList ds p := hA0
  rw [Try.params3] at hA hval
  obtain ⟨v0, vs0, d0, ds0, p0, q0, hargs, rfl, rfl, h0, r0⟩ := trodAll_cons hA
  obtain ⟨v1, vs1, d1, ds1, p1, q1, rfl, rfl, rfl, h1, r1⟩ := trodAll_cons r0
  obtain ⟨v2, vs2, d2, ds2, p2, q2, rfl, rfl, rfl, h2, r2⟩ := trodAll_cons r1
  obtain ⟨rfl, rfl, rfl⟩ := trodAll_nil r2
  obtain rfl : args = #[v0, v1, v2] := by cases args; simp_all
  obtain ⟨rfl, rfl⟩ := trodVars_none hV
  have kk0 := h0
  have lt0 : ∀ x ∈ p0, x.block < W.heap.size := by obtain ⟨m, hm⟩ := kk0; exact DataW.trod_lt m _ _ _ hm
  obtain ⟨s0, n0, f0, x0, k0, c0, l0, b0, rfl, hl0, hc0, wn0, wf0, wx0, hr0⟩ := open_env (hval 0 25 v0 rfl rfl) h0
  have k1 := h1
  have lt1 : ∀ x ∈ p1, x.block < W.heap.size := by obtain ⟨m, hm⟩ := k1; exact DataW.trod_lt m _ _ _ hm
  obtain ⟨q1, t1, a1, n1, c1, l1, b1, rfl, hl1, hc1, w1, hr1⟩ := open_tx (hval 1 27 v1 rfl rfl) h1
  obtain ⟨a2, n2, c2, rfl⟩ := okWide_slice Try.underlying23 (hval 2 23 v2 rfl rfl)
  have k2 := h2
  have lt2 : ∀ x ∈ p2, x.block < W.heap.size := by obtain ⟨m, hm⟩ := k2; exact DataW.trod_lt m _ _ _ hm
  obtain ⟨l2, hl2, hc2, hr2⟩ := (by obtain ⟨m, hm⟩ := h2; exact open_bytes (by simpa [Value.cells] using hm) : ∃ l : List Nat, l.length = n2 ∧ n2 ≤ c2 ∧ Rd W a2 l)
  clear hA0 hval0
  refine (walk s0 n0 f0 x0 k0 c0 l0 b0 hl0 hc0 wn0 wf0 wx0 q1 t1 a1 n1 c1 l1 b1 hl1 hc1 w1 a2 n2 c2 l2 hl2 hc2 W hr0 hr1 hr2).mono fun e W' ⟨he, bel⟩ => ?_
  subst he
  exact ⟨_, rfl, _, _, _, [], _, [], hW', trodAll_mk1 (shut_bool Try.underlying4 _), (trodAll_cons_mk (Below.trod laidOut (by kernel_rfl) (of_decide_eq_true (by kernel_rfl)) kk0 bel lt0) (trodAll_cons_mk (Below.trod laidOut (by kernel_rfl) (of_decide_eq_true (by kernel_rfl)) k1 bel lt1) (trodAll_cons_mk (Below.trod laidOut (by kernel_rfl) (of_decide_eq_true (by kernel_rfl)) k2 bel lt2) trodAll_mk0))), rfl, bel.frame _, fun h => by cases h⟩

theorem over : Rows.envelopeMakesRow.holds Try.pinned (OpenSpec.ofChange Rows.envelopeMakesSpec) :=
  OpenClaim.holds_of_wide 3 Try.f3 rfl rfl rfl rfl rfl rfl rfl ⟨rfl, rfl, rfl, rfl, rfl⟩ rfl rfl rfl rfl rfl (by kernel_rfl) Try.func3 (by kernel_rfl)
    (of_decide_eq_true (by kernel_rfl)) (by unfold Func.isWrapper; first | (rw [if_pos (by decide +kernel)]; kernel_rfl) | (rw [if_neg (by decide +kernel)]; exact ⟨rfl, rfl⟩))
    (fun os started H enc _ => lifted os started H enc)

theorem proved : Rows.EnvelopeMakesSaid := over
#print axioms proved
end Go.Proofs.Ytjifionpblpfoaa.envelopeMakes

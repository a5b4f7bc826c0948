/-
  The statement EnvelopeBlind holds: an envelope opens, under some pad of its length, to any order that is short enough. Conditions: none beyond the row's own.
-/
import Derived.Test.YtjifionpblpfoaaDoorRows
import Derived.Test.YtjifionpblpfoaaDoorTie
import Derived.Test.YtjifionpblpfoaaDoorCards
import Derived.Test.YtjifionpblpfoaaDoorBlindPack9
import Derived.WalkKit
import Derived.ProofKit
import Derived.OpenShut
import Derived.ChangeOld
import Derived.Below
import Derived.Lib.SmallJoins
import Derived.LaidMore
import Derived.SevenTiedAt
import Derived.Stop.Joined
namespace Go.Proofs.YtjifionpblpfoaaDoor.envelopeBlind
open Go.ChangeShapes Go.WideShapes Go.ChangeAt Go.RowKit
set_option linter.unusedVariables false

theorem own : ownKnob Tryd.prog.godebug = none := by kernel_rfl
theorem laidOut : laidOutB Tryd.prog = true := by kernel_rfl
theorem walk (s0 : Int) (n0 f0 x0 k0 c0 : Nat) (l0 : List Nat) (b0 : Option Addr) (hl0 : l0.length = k0) (hc0 : k0 ≤ c0) (wn0 : n0 < 18446744073709551616) (wf0 : f0 < 18446744073709551616) (wx0 : x0 < 18446744073709551616) (q1 t1 : Int) (a1 n1 c1 : Nat) (l1 : List Nat) (b1 : Option Addr) (hl1 : l1.length = n1) (hc1 : n1 ≤ c1) (w1 : a1 < 18446744073709551616) (w : World) (hgl : GL w) (hr0 : Rd w b0 l0) (hr1 : Rd w b1 l1) :
    Calls Tryd.prog 5 #[.agg #[.int .i64 s0, .int .u64 (n0 : Int), .int .u64 (f0 : Int), .int .u64 (x0 : Int), .slice b0 k0 c0], .agg #[.int .i64 q1, .int .i64 t1, .int .u64 (a1 : Int), .slice b1 n1 c1]] w fun e w' => e = .returned (.bool true) ∧ Below w.heap.size w w' := by
  exact (blind16_walk envMk envCd s0 q1 t1 n0 f0 x0 k0 c0 a1 n1 c1 l0 l1 b0 b1 w hgl hl0 hc0 hr0 hl1 hc1 hr1 wn0 wf0 wx0 w1).mono fun e w' ⟨he, h⟩ => ⟨he, h.below⟩

set_option maxRecDepth 100000 in
theorem lifted (os : Os) (started : os.Started) (H : Type) (enc : TypeId × Value → H) :
    ReturnsInHanded {} Tryd.checked os 5 .any (fun w args => (Rows.envelopeBlindSpec.pre enc Tryd.prog Tryd.f5 [] false w args ∧ laidMetH Tryd.prog laid10 w) ∧ sizedMet enc Tryd.prog Tryd.f5 (OpenSpec.ofChange Rows.envelopeBlindSpec) false w args)
      (Rows.envelopeBlindSpec.post enc Tryd.prog Tryd.f5 false true false false) := by
  refine returnsInHanded_of_change_and (C := Tryd.checked) (X := fun w _ => laidMetH Tryd.prog laid10 w) (fun _ _ _ hh h => h.of_heap hh) own started (by kernel_rfl) Tryd.func5
    (ChangeSpec.witness_shaped (enc := enc) (C := Tryd.checked) (os := os) (X := fun w _ => laidMetH Tryd.prog laid10 w) false (World.doorLaid Tryd.prog 1000 os) #[.agg #[.int .i64 0, .int .u64 0, .int .u64 0, .int .u64 0, .slice none 0 0], .agg #[.int .i64 0, .int .i64 0, .int .u64 0, .slice none 0 0]] 8 rfl (World.shaped_of_RefB (by kernel_rfl) (by kernel_rfl)) (by kernel_rfl) (by kernel_rfl) (by kernel_rfl) (door_met10 os _)) ?_
  intro W base args ds gs before hval0 hW hcnd hsz hL _
  have hgl : GL W := gl_of_laid hL
  have hval : ∀ (j : Nat) t v, Tryd.f5.params[j]? = some t → args[j]? = some v → Value.okWide Tryd.prog W .any base t v := hval0
  have hW' := hW
  obtain ⟨p, q, hA0, hV, rfl, hfz, hnd⟩ := hW
  have hA : DataW.TrodAll enc Tryd.prog W 0 (fun _ => true) true Tryd.f5.params.toList args.toList ds p := hA0
  rw [Tryd.params5] at hA hval
  obtain ⟨v0, vs0, d0, ds0, p0, q0, hargs, rfl, rfl, h0, r0⟩ := trodAll_cons hA
  obtain ⟨v1, vs1, d1, ds1, p1, q1, rfl, rfl, rfl, h1, r1⟩ := trodAll_cons r0
  obtain ⟨rfl, rfl, rfl⟩ := trodAll_nil r1
  obtain rfl : args = #[v0, v1] := by cases args; simp_all
  obtain ⟨rfl, rfl⟩ := trodVars_none hV
  have kk0 := h0
  have lt0 : ∀ x ∈ p0, x.block < W.heap.size := by obtain ⟨m, hm⟩ := kk0; exact DataW.trod_lt m _ _ _ hm
  obtain ⟨s0, n0, f0, x0, k0, c0, l0, b0, rfl, hl0, hc0, wn0, wf0, wx0, hr0⟩ := open_env (hval 0 25 v0 rfl rfl) h0
  have k1 := h1
  have lt1 : ∀ x ∈ p1, x.block < W.heap.size := by obtain ⟨m, hm⟩ := k1; exact DataW.trod_lt m _ _ _ hm
  obtain ⟨q1, t1, a1, n1, c1, l1, b1, rfl, hl1, hc1, w1, hr1⟩ := open_tx (hval 1 46 v1 rfl rfl) h1
  clear hA0 hval0
  refine (walk s0 n0 f0 x0 k0 c0 l0 b0 hl0 hc0 wn0 wf0 wx0 q1 t1 a1 n1 c1 l1 b1 hl1 hc1 w1 W hgl hr0 hr1).mono fun e W' ⟨he, bel⟩ => ?_
  subst he
  exact ⟨_, rfl, _, _, _, [], _, [], hW', trodAll_mk1 (shut_bool Tryd.underlying4 _), (trodAll_cons_mk (Below.trod laidOut (by kernel_rfl) (of_decide_eq_true (by kernel_rfl)) kk0 bel lt0) (trodAll_cons_mk (Below.trod laidOut (by kernel_rfl) (of_decide_eq_true (by kernel_rfl)) k1 bel lt1) trodAll_mk0)), rfl, bel.frame _, fun h => by cases h⟩

theorem over : Rows.envelopeBlindRow.holds Tryd.pinned (OpenSpec.ofChange Rows.envelopeBlindSpec) :=
  OpenClaim.holds_of_wide 5 Tryd.f5 rfl rfl rfl rfl rfl rfl rfl ⟨rfl, rfl, rfl, rfl, rfl⟩ rfl rfl rfl rfl rfl (by kernel_rfl) Tryd.func5 (by kernel_rfl)
    (of_decide_eq_true (by kernel_rfl)) (by unfold Func.isWrapper; first | (rw [if_pos (by decide +kernel)]; kernel_rfl) | (rw [if_neg (by decide +kernel)]; exact ⟨rfl, rfl⟩))
    (fun os started H enc _ => lifted os started H enc)

theorem proved : Rows.EnvelopeBlindCardSaid :=
  Claim7.holds_tied_plain_at .later [] [.data, .data] true (true, "5ef45c9b7a5493e26c518dd52d7fb1ef42e50c6713a6fdabb04a45f5e0ebbb5d") true over (fun _ h => by cases h) (by kernel_rfl) (fun _ h => by cases h) envelopeBlind_row_tie rfl ⟨rfl, rfl⟩ (by kernel_rfl) rfl
    (fun f fn hf hfn => by
      obtain rfl : f = 5 := Option.some.inj ((show Tryd.prog.funcNamed "shroud/shroudlaw16.EnvelopeBlind" = some 5 by kernel_rfl).symm.trans hf) |>.symm
      obtain rfl : fn = Tryd.f5 := (Option.some.inj (Tryd.func5.symm.trans hfn)).symm
      exact ⟨by kernel_rfl, fun j t ht => by
        rw [Tryd.params5] at ht
        have hm : t ∈ [25, 46] := by simpa using Array.mem_of_getElem? ht
        have hall : ([25, 46].all fun u => !Tryd.prog.wantsStandIn u) = true := by kernel_rfl
        exact (show Tryd.prog.wantsStandIn t = false by simpa using List.all_eq_true.1 hall t hm)⟩)
    (by kernel_rfl)
#print axioms proved
end Go.Proofs.YtjifionpblpfoaaDoor.envelopeBlind

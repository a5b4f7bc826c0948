/-
  The statement EnvelopeOwn holds: what Encode, Decode and Id tell is memory of its own. Conditions: none beyond the row's own.
-/
import Derived.Test.YtjifionpblpfoaaDoorRows
import Derived.Test.YtjifionpblpfoaaDoorTie
import Derived.Test.YtjifionpblpfoaaDoorCards
import Derived.Test.YtjifionpblpfoaaDoorOwnPack9
import Derived.WalkKit
import Derived.ProofKit
import Derived.OpenShut
import Derived.ChangeOld
import Derived.Below
import Derived.Lib.SmallJoins
import Derived.LaidMore
import Derived.SevenTiedAt
import Derived.Stop.Joined
namespace Go.Proofs.YtjifionpblpfoaaDoor.envelopeOwn
open Go.ChangeShapes Go.WideShapes Go.ChangeAt Go.RowKit
set_option linter.unusedVariables false

theorem own : ownKnob Tryd.prog.godebug = none := by kernel_rfl
theorem laidOut : laidOutB Tryd.prog = true := by kernel_rfl
theorem walk (s0 : Int) (n0 f0 x0 k0 c0 : Nat) (l0 : List Nat) (b0 : Option Addr) (hl0 : l0.length = k0) (hc0 : k0 ≤ c0) (wn0 : n0 < 18446744073709551616) (wf0 : f0 < 18446744073709551616) (wx0 : x0 < 18446744073709551616) (w : World) (hgl : GL w) (hr0 : Rd w b0 l0) :
    Calls Tryd.prog 6 #[.agg #[.int .i64 s0, .int .u64 (n0 : Int), .int .u64 (f0 : Int), .int .u64 (x0 : Int), .slice b0 k0 c0]] w fun e w' => e = .returned (.bool true) ∧ Below w.heap.size w w' := by
  exact (own16_walk envMk envCd s0 n0 f0 x0 k0 c0 l0 b0 w hgl hl0 hc0 hr0 wn0 wf0 wx0).mono fun e w' ⟨he, h⟩ => ⟨he, h.below⟩

set_option maxRecDepth 100000 in
theorem lifted (os : Os) (started : os.Started) (H : Type) (enc : TypeId × Value → H) :
    ReturnsInHanded {} Tryd.checked os 6 .any (fun w args => (Rows.envelopeOwnSpec.pre enc Tryd.prog Tryd.f6 [] false w args ∧ laidMetH Tryd.prog laid10 w) ∧ sizedMet enc Tryd.prog Tryd.f6 (OpenSpec.ofChange Rows.envelopeOwnSpec) false w args)
      (Rows.envelopeOwnSpec.post enc Tryd.prog Tryd.f6 false true false false) := by
  refine returnsInHanded_of_change_and (C := Tryd.checked) (X := fun w _ => laidMetH Tryd.prog laid10 w) (fun _ _ _ hh h => h.of_heap hh) own started (by kernel_rfl) Tryd.func6
    (ChangeSpec.witness_shaped (enc := enc) (C := Tryd.checked) (os := os) (X := fun w _ => laidMetH Tryd.prog laid10 w) false (World.doorLaid Tryd.prog 1000 os) #[.agg #[.int .i64 0, .int .u64 0, .int .u64 0, .int .u64 0, .slice none 0 0]] 8 rfl (World.shaped_of_RefB (by kernel_rfl) (by kernel_rfl)) (by kernel_rfl) (by kernel_rfl) (by kernel_rfl) (door_met10 os _)) ?_
  intro W base args ds gs before hval0 hW hcnd hsz hL _
  have hgl : GL W := gl_of_laid hL
  have hval : ∀ (j : Nat) t v, Tryd.f6.params[j]? = some t → args[j]? = some v → Value.okWide Tryd.prog W .any base t v := hval0
  have hW' := hW
  obtain ⟨p, q, hA0, hV, rfl, hfz, hnd⟩ := hW
  have hA : DataW.TrodAll enc Tryd.prog W 0 (fun _ => true) true Tryd.f6.params.toList args.toList ds p := hA0
  rw [Tryd.params6] at hA hval
  obtain ⟨v0, vs0, d0, ds0, p0, q0, hargs, rfl, rfl, h0, r0⟩ := trodAll_cons hA
  obtain ⟨rfl, rfl, rfl⟩ := trodAll_nil r0
  obtain rfl : args = #[v0] := by cases args; simp_all
  obtain ⟨rfl, rfl⟩ := trodVars_none hV
  have kk0 := h0
  have lt0 : ∀ x ∈ p0, x.block < W.heap.size := by obtain ⟨m, hm⟩ := kk0; exact DataW.trod_lt m _ _ _ hm
  obtain ⟨s0, n0, f0, x0, k0, c0, l0, b0, rfl, hl0, hc0, wn0, wf0, wx0, hr0⟩ := open_env (hval 0 25 v0 rfl rfl) h0
  clear hA0 hval0
  refine (walk s0 n0 f0 x0 k0 c0 l0 b0 hl0 hc0 wn0 wf0 wx0 W hgl hr0).mono fun e W' ⟨he, bel⟩ => ?_
  subst he
  exact ⟨_, rfl, _, _, _, [], _, [], hW', trodAll_mk1 (shut_bool Tryd.underlying4 _), (trodAll_cons_mk (Below.trod laidOut (by kernel_rfl) (of_decide_eq_true (by kernel_rfl)) kk0 bel lt0) trodAll_mk0), rfl, bel.frame _, fun h => by cases h⟩

theorem over : Rows.envelopeOwnRow.holds Tryd.pinned (OpenSpec.ofChange Rows.envelopeOwnSpec) :=
  OpenClaim.holds_of_wide 6 Tryd.f6 rfl rfl rfl rfl rfl rfl rfl ⟨rfl, rfl, rfl, rfl, rfl⟩ rfl rfl rfl rfl rfl (by kernel_rfl) Tryd.func6 (by kernel_rfl)
    (of_decide_eq_true (by kernel_rfl)) (by unfold Func.isWrapper; first | (rw [if_pos (by decide +kernel)]; kernel_rfl) | (rw [if_neg (by decide +kernel)]; exact ⟨rfl, rfl⟩))
    (fun os started H enc _ => lifted os started H enc)

theorem proved : Rows.EnvelopeOwnCardSaid :=
  Claim7.holds_tied_plain_at .later [] [.data, .data] true (true, "5ef45c9b7a5493e26c518dd52d7fb1ef42e50c6713a6fdabb04a45f5e0ebbb5d") true over (fun _ h => by cases h) (by kernel_rfl) (fun _ h => by cases h) envelopeOwn_row_tie rfl ⟨rfl, rfl⟩ (by kernel_rfl) rfl
    (fun f fn hf hfn => by
      obtain rfl : f = 6 := Option.some.inj ((show Tryd.prog.funcNamed "shroud/shroudlaw16.EnvelopeOwn" = some 6 by kernel_rfl).symm.trans hf) |>.symm
      obtain rfl : fn = Tryd.f6 := (Option.some.inj (Tryd.func6.symm.trans hfn)).symm
      exact ⟨by kernel_rfl, fun j t ht => by
        rw [Tryd.params6] at ht
        have hm : t ∈ [25] := by simpa using Array.mem_of_getElem? ht
        have hall : ([25].all fun u => !Tryd.prog.wantsStandIn u) = true := by kernel_rfl
        exact (show Tryd.prog.wantsStandIn t = false by simpa using List.all_eq_true.1 hall t hm)⟩)
    (by kernel_rfl)
#print axioms proved
end Go.Proofs.YtjifionpblpfoaaDoor.envelopeOwn

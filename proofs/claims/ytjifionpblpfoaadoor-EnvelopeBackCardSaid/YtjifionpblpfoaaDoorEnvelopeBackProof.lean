/-
  The statement EnvelopeBack holds: what was encoded is decoded, and what is decoded and encoded is the same bytes; two envelopes that are called alike are alike, or two unlike things that were digested have one digest. Conditions: none beyond the row's own.
-/
import Derived.Test.YtjifionpblpfoaaDoorRows
import Derived.Test.YtjifionpblpfoaaDoorTie
import Derived.Test.YtjifionpblpfoaaDoorCards
import Derived.Test.YtjifionpblpfoaaDoorBackPack9
import Derived.WalkKit
import Derived.ProofKit
import Derived.OpenShut
import Derived.ChangeOld
import Derived.Below
import Derived.Lib.SmallJoins
import Derived.LaidMore
import Derived.SevenTiedAt
import Derived.Stop.Joined
namespace Go.Proofs.YtjifionpblpfoaaDoor.envelopeBack
open Go.ChangeShapes Go.WideShapes Go.ChangeAt Go.RowKit
set_option linter.unusedVariables false

theorem own : ownKnob Tryd.prog.godebug = none := by kernel_rfl
theorem laidOut : laidOutB Tryd.prog = true := by kernel_rfl
theorem walk (s0 : Int) (n0 f0 x0 k0 c0 : Nat) (l0 : List Nat) (b0 : Option Addr) (hl0 : l0.length = k0) (hc0 : k0 ≤ c0) (wn0 : n0 < 18446744073709551616) (wf0 : f0 < 18446744073709551616) (wx0 : x0 < 18446744073709551616) (s1 : Int) (n1 f1 x1 k1 c1 : Nat) (l1 : List Nat) (b1 : Option Addr) (hl1 : l1.length = k1) (hc1 : k1 ≤ c1) (wn1 : n1 < 18446744073709551616) (wf1 : f1 < 18446744073709551616) (wx1 : x1 < 18446744073709551616) (a2 : Option Addr) (n2 c2 : Nat) (l2 : List Nat) (hl2 : l2.length = n2) (hc2 : n2 ≤ c2) (w : World) (hgl : GL w) (hr0 : Rd w b0 l0) (hr1 : Rd w b1 l1) (hr2 : Rd w a2 l2) :
    Calls Tryd.prog 4 #[.agg #[.int .i64 s0, .int .u64 (n0 : Int), .int .u64 (f0 : Int), .int .u64 (x0 : Int), .slice b0 k0 c0], .agg #[.int .i64 s1, .int .u64 (n1 : Int), .int .u64 (f1 : Int), .int .u64 (x1 : Int), .slice b1 k1 c1], .slice a2 n2 c2] w fun e w' => e = .returned (.bool true) ∧ Below w.heap.size w w' := by
  exact (back16_walk envMk envCd shaOH s0 s1 n0 f0 x0 k0 c0 n1 f1 x1 k1 c1 n2 c2 l0 l1 l2 b0 b1 a2 w hgl hl0 hc0 hr0 hl1 hc1 hr1 hl2 hc2 hr2 wn0 wf0 wx0 wn1 wf1 wx1).mono fun e w' ⟨he, h⟩ => ⟨he, h.below⟩

set_option maxRecDepth 100000 in
theorem lifted (os : Os) (started : os.Started) (H : Type) (enc : TypeId × Value → H) :
    ReturnsInHanded {} Tryd.checked os 4 .any (fun w args => (Rows.envelopeBackSpec.pre enc Tryd.prog Tryd.f4 [] false w args ∧ laidMetH Tryd.prog laid10 w) ∧ sizedMet enc Tryd.prog Tryd.f4 (OpenSpec.ofChange Rows.envelopeBackSpec) false w args)
      (Rows.envelopeBackSpec.post enc Tryd.prog Tryd.f4 false true false false) := by
  refine returnsInHanded_of_change_and (C := Tryd.checked) (X := fun w _ => laidMetH Tryd.prog laid10 w) (fun _ _ _ hh h => h.of_heap hh) own started (by kernel_rfl) Tryd.func4
    (ChangeSpec.witness_shaped (enc := enc) (C := Tryd.checked) (os := os) (X := fun w _ => laidMetH Tryd.prog laid10 w) false (World.doorLaid Tryd.prog 1000 os) #[.agg #[.int .i64 0, .int .u64 0, .int .u64 0, .int .u64 0, .slice none 0 0], .agg #[.int .i64 0, .int .u64 0, .int .u64 0, .int .u64 0, .slice none 0 0], .slice none 0 0] 8 rfl (World.shaped_of_RefB (by kernel_rfl) (by kernel_rfl)) (by kernel_rfl) (by kernel_rfl) (by kernel_rfl) (door_met10 os _)) ?_
  intro W base args ds gs before hval0 hW hcnd hsz hL _
  have hgl : GL W := gl_of_laid hL
  have hval : ∀ (j : Nat) t v, Tryd.f4.params[j]? = some t → args[j]? = some v → Value.okWide Tryd.prog W .any base t v := hval0
  have hW' := hW
  obtain ⟨p, q, hA0, hV, rfl, hfz, hnd⟩ := hW
  have hA : DataW.TrodAll enc Tryd.prog W 0 (fun _ => true) true Tryd.f4.params.toList args.toList ds p := hA0
  rw [Tryd.params4] at hA hval
  obtain ⟨v0, vs0, d0, ds0, p0, q0, hargs, rfl, rfl, h0, r0⟩ := trodAll_cons hA
  obtain ⟨v1, vs1, d1, ds1, p1, q1, rfl, rfl, rfl, h1, r1⟩ := trodAll_cons r0
  obtain ⟨v2, vs2, d2, ds2, p2, q2, rfl, rfl, rfl, h2, r2⟩ := trodAll_cons r1
  obtain ⟨rfl, rfl, rfl⟩ := trodAll_nil r2
  obtain rfl : args = #[v0, v1, v2] := by cases args; simp_all
  obtain ⟨rfl, rfl⟩ := trodVars_none hV
  have kk0 := h0
  have lt0 : ∀ x ∈ p0, x.block < W.heap.size := by obtain ⟨m, hm⟩ := kk0; exact DataW.trod_lt m _ _ _ hm
  obtain ⟨s0, n0, f0, x0, k0, c0, l0, b0, rfl, hl0, hc0, wn0, wf0, wx0, hr0⟩ := open_env (hval 0 25 v0 rfl rfl) h0
  have kk1 := h1
  have lt1 : ∀ x ∈ p1, x.block < W.heap.size := by obtain ⟨m, hm⟩ := kk1; exact DataW.trod_lt m _ _ _ hm
  obtain ⟨s1, n1, f1, x1, k1, c1, l1, b1, rfl, hl1, hc1, wn1, wf1, wx1, hr1⟩ := open_env (hval 1 25 v1 rfl rfl) h1
  obtain ⟨a2, n2, c2, rfl⟩ := okWide_slice Tryd.underlying23 (hval 2 23 v2 rfl rfl)
  have k2 := h2
  have lt2 : ∀ x ∈ p2, x.block < W.heap.size := by obtain ⟨m, hm⟩ := k2; exact DataW.trod_lt m _ _ _ hm
  obtain ⟨l2, hl2, hc2, hr2⟩ := (by obtain ⟨m, hm⟩ := h2; exact open_bytes (by simpa [Value.cells] using hm) : ∃ l : List Nat, l.length = n2 ∧ n2 ≤ c2 ∧ Rd W a2 l)
  clear hA0 hval0
  refine (walk s0 n0 f0 x0 k0 c0 l0 b0 hl0 hc0 wn0 wf0 wx0 s1 n1 f1 x1 k1 c1 l1 b1 hl1 hc1 wn1 wf1 wx1 a2 n2 c2 l2 hl2 hc2 W hgl hr0 hr1 hr2).mono fun e W' ⟨he, bel⟩ => ?_
  subst he
  exact ⟨_, rfl, _, _, _, [], _, [], hW', trodAll_mk1 (shut_bool Tryd.underlying4 _), (trodAll_cons_mk (Below.trod laidOut (by kernel_rfl) (of_decide_eq_true (by kernel_rfl)) kk0 bel lt0) (trodAll_cons_mk (Below.trod laidOut (by kernel_rfl) (of_decide_eq_true (by kernel_rfl)) kk1 bel lt1) (trodAll_cons_mk (Below.trod laidOut (by kernel_rfl) (of_decide_eq_true (by kernel_rfl)) k2 bel lt2) trodAll_mk0))), rfl, bel.frame _, fun h => by cases h⟩

theorem over : Rows.envelopeBackRow.holds Tryd.pinned (OpenSpec.ofChange Rows.envelopeBackSpec) :=
  OpenClaim.holds_of_wide 4 Tryd.f4 rfl rfl rfl rfl rfl rfl rfl ⟨rfl, rfl, rfl, rfl, rfl⟩ rfl rfl rfl rfl rfl (by kernel_rfl) Tryd.func4 (by kernel_rfl)
    (of_decide_eq_true (by kernel_rfl)) (by unfold Func.isWrapper; first | (rw [if_pos (by decide +kernel)]; kernel_rfl) | (rw [if_neg (by decide +kernel)]; exact ⟨rfl, rfl⟩))
    (fun os started H enc _ => lifted os started H enc)

theorem proved : Rows.EnvelopeBackCardSaid :=
  Claim7.holds_tied_plain_at .later [] [.data, .data] true (true, "5ef45c9b7a5493e26c518dd52d7fb1ef42e50c6713a6fdabb04a45f5e0ebbb5d") true over (fun _ h => by cases h) (by kernel_rfl) (fun _ h => by cases h) envelopeBack_row_tie rfl ⟨rfl, rfl⟩ (by kernel_rfl) rfl
    (fun f fn hf hfn => by
      obtain rfl : f = 4 := Option.some.inj ((show Tryd.prog.funcNamed "shroud/shroudlaw16.EnvelopeBack" = some 4 by kernel_rfl).symm.trans hf) |>.symm
      obtain rfl : fn = Tryd.f4 := (Option.some.inj (Tryd.func4.symm.trans hfn)).symm
      exact ⟨by kernel_rfl, fun j t ht => by
        rw [Tryd.params4] at ht
        have hm : t ∈ [25, 23] := by simpa using Array.mem_of_getElem? ht
        have hall : ([25, 23].all fun u => !Tryd.prog.wantsStandIn u) = true := by kernel_rfl
        exact (show Tryd.prog.wantsStandIn t = false by simpa using List.all_eq_true.1 hall t hm)⟩)
    (by kernel_rfl)
#print axioms proved
end Go.Proofs.YtjifionpblpfoaaDoor.envelopeBack

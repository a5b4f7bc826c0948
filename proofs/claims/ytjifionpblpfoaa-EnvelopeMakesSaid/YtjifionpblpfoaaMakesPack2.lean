/-
  Part 2 of the texts that the seat's proofs stand on; each part of it begins with its own sentence and conditions. Conditions: those that each theorem names.
-/
import Derived.Test.YtjifionpblpfoaaMakesPack1
import Derived.Lib.Hide

/-
  A region that draws its order, walked by a plan: operations that only read what stays are taken ahead, one that alone may come up comes up, and where two or three may come up next each of them is walked. Conditions: a check of the region's text (by the kernel); of no program in particular.
-/
namespace Go.Proofs.Ytjifionpblpfoaa
open Go

/-- A plan: the end; an operation that only reads what stays; the only one that may come up; one of two; one of three. -/
inductive Plan where
  | done : Plan
  | yes : Nat → Plan → Plan
  | one : Nat → Plan → Plan
  | two : Nat → Plan → Nat → Plan → Plan
  | three : Nat → Plan → Nat → Plan → Nat → Plan → Plan

section
variable {P : Program} {Q : Exit → Act → World → Prop} {md : Region.Mode} {C : World → Prop}
/-- Operation i, and then K. -/
def wpStepP (P : Program) (l : List Oper) (Q : Exit → Act → World → Prop) (i : Nat) (K : Act → World → Prop) (a : Act) (w : World) : Prop :=
  ∃ o, l[i]? = some o ∧ wpList P l.toArray (Exit.then K Q) [o] a w
/-- The walk by a plan. -/
def wpPlan (P : Program) (l : List Oper) (C : World → Prop) (F : Nat → Bool) (Q : Exit → Act → World → Prop) : Plan → Act → World → Prop
  | .done, a, w => wpList P l.toArray Q [] a w
  | .yes i p, a, w => ∃ o v, l[i]? = some o ∧ YieldsC P l.toArray C o v a ∧ wpPlan P l C F Q p (a.put o.dst v) w
  | .one i p, a, w => wpStepP P l Q i (fun a' w' => (F i = true → C w') ∧ wpPlan P l C F Q p a' w') a w
  | .two i p j q, a, w => wpStepP P l Q i (fun a' w' => (F i = true → C w') ∧ wpPlan P l C F Q p a' w') a w ∧ wpStepP P l Q j (fun a' w' => (F j = true → C w') ∧ wpPlan P l C F Q q a' w') a w
  | .three i p j q k r, a, w => wpStepP P l Q i (fun a' w' => (F i = true → C w') ∧ wpPlan P l C F Q p a' w') a w ∧ wpStepP P l Q j (fun a' w' => (F j = true → C w') ∧ wpPlan P l C F Q q a' w') a w ∧ wpStepP P l Q k (fun a' w' => (F k = true → C w') ∧ wpPlan P l C F Q r a' w') a w
theorem plan_yes {F : Nat → Bool} {l : List Oper} {i : Nat} {o : Oper} {π : Plan} {a : Act} {w : World} (ho : l[i]? = some o)
    (h : ∀ K : Act → Prop, (∀ a', wpPlan P l C F Q π a' w → K a') → Region.wanted o (yielded l.toArray a.tmps) = true ∧ ∃ v, (∀ W, C W → (execOp a.eval o).run P W = .ok (.value v) W) ∧ K (a.put o.dst v)) : wpPlan P l C F Q (.yes i π) a w := by
  obtain ⟨h1, v, h2, h3⟩ := h (fun a' => wpPlan P l C F Q π a' w) (fun _ h => h)
  exact ⟨o, v, ho, .inl ⟨h1, h2⟩, h3⟩
theorem plan_call {F : Nat → Bool} {l : List Oper} {i : Nat} {o : Oper} {π : Plan} {a : Act} {w : World} (ho : l[i]? = some o)
    (h : ∀ K : Act → Prop, (∀ a', wpPlan P l C F Q π a' w → K a') → Region.wanted o (yielded l.toArray a.tmps) = true ∧ ∃ f args v, (∀ W, C W → (execOp a.eval o).run P W = .ok (.enter f args) W) ∧ (∀ W, C W → Calls P f args W (fun e w' => e = .returned v ∧ W = w')) ∧ K (a.put o.dst v)) : wpPlan P l C F Q (.yes i π) a w := by
  obtain ⟨h1, f, args, v, h2, h3, h4⟩ := h (fun a' => wpPlan P l C F Q π a' w) (fun _ h => h)
  exact ⟨o, v, ho, .inr (.inr ⟨h1, f, args, h2, h3⟩), h4⟩
theorem plan_load {F : Nat → Bool} {l : List Oper} {i : Nat} {o : Oper} {π : Plan} {a : Act} {w : World} (ho : l[i]? = some o) (ty : TypeId) (x : Operand) (hop : o.op = .load ty x) (v : Value)
    (hw : Region.wanted o (yielded l.toArray a.tmps) = true) (hrun : ∀ W, C W → (Instr.loadAt ty (a.eval x)).run P W = .ok v W) (h : wpPlan P l C F Q π (a.put o.dst v) w) : wpPlan P l C F Q (.yes i π) a w :=
  plan_yes ho (fun _ hK => ⟨hw, v, fun W hW => by simp only [execOp, hop, Sem.run_bind, hrun W hW, Result.andThen, Sem.run_pure], hK _ h⟩)
theorem plan_toArray {F : Nat → Bool} {l : List Oper} {i : Nat} {o : Oper} {π : Plan} {a : Act} {w : World} (ho : l[i]? = some o) (ty : TypeId) (x : Operand) (hop : o.op = .sliceToArrayPointer ty x) (v : Value)
    (hw : Region.wanted o (yielded l.toArray a.tmps) = true) (hrun : ∀ W, C W → (Instr.arrayAt ty (a.eval x)).run P W = .ok v W) (h : wpPlan P l C F Q π (a.put o.dst v) w) : wpPlan P l C F Q (.yes i π) a w :=
  plan_yes ho (fun _ hK => ⟨hw, v, fun W hW => by simp only [execOp, hop, Sem.run_bind, hrun W hW, Result.andThen, Sem.run_pure], hK _ h⟩)
theorem stepP_of {l : List Oper} {i : Nat} {o : Oper} {a : Act} {w : World} {K : Act → World → Prop} (ho : l[i]? = some o)
    (h : ∀ K' : Act → World → Prop, (∀ a' w', K a' w' → K' a' w') → wpList P l.toArray (Exit.then K' Q) [o] a w) : wpStepP P l Q i K a w := ⟨o, ho, h K (fun _ _ h => h)⟩
theorem plan_one {F : Nat → Bool} {l : List Oper} {i : Nat} {o : Oper} {π : Plan} {a : Act} {w : World} (ho : l[i]? = some o)
    (h : ∀ K : Act → World → Prop, (∀ a' w', (F i = true → C w') ∧ wpPlan P l C F Q π a' w' → K a' w') → wpList P l.toArray (Exit.then K Q) [o] a w) : wpPlan P l C F Q (.one i π) a w := stepP_of ho h
theorem plan_two {F : Nat → Bool} {l : List Oper} {i j : Nat} {o u : Oper} {p q : Plan} {a : Act} {w : World} (ho : l[i]? = some o) (hu : l[j]? = some u)
    (h1 : ∀ K : Act → World → Prop, (∀ a' w', (F i = true → C w') ∧ wpPlan P l C F Q p a' w' → K a' w') → wpList P l.toArray (Exit.then K Q) [o] a w)
    (h2 : ∀ K : Act → World → Prop, (∀ a' w', (F j = true → C w') ∧ wpPlan P l C F Q q a' w' → K a' w') → wpList P l.toArray (Exit.then K Q) [u] a w) : wpPlan P l C F Q (.two i p j q) a w := ⟨stepP_of ho h1, stepP_of hu h2⟩
/-- The check: c says whether the world is in the class; n operations are left. -/
def planB (md : Region.Mode) (ops : Array Oper) (F : Nat → Bool) : Nat → Bool → Plan → Array Bool → Bool
  | 0, _, .done, listed => (Region.ready md ops listed).isEmpty
  | n + 1, c, .yes i p, listed => c && (Region.ready md ops listed).contains i && Region.free md ops listed i && behindB md ops F i && planB md ops F n c p (listed.setIfInBounds i true)
  | n + 1, c, .one i p, listed => (Region.ready md ops listed == [i]) && planB md ops F n (c && F i) p (listed.setIfInBounds i true)
  | n + 1, c, .two i p j q, listed => (Region.ready md ops listed == [i, j]) && planB md ops F n (c && F i) p (listed.setIfInBounds i true) && planB md ops F n (c && F j) q (listed.setIfInBounds j true)
  | n + 1, c, .three i p j q k r, listed => (Region.ready md ops listed == [i, j, k]) && planB md ops F n (c && F i) p (listed.setIfInBounds i true) && planB md ops F n (c && F j) q (listed.setIfInBounds j true) && planB md ops F n (c && F k) r (listed.setIfInBounds k true)
  | _, _, _, _ => false
theorem wpAnyC_of_plan {F : Nat → Bool} {l : List Oper} (hsel : Region.noSelect l.toArray = true) (hQ : ∀ c a a' w, a.defers = a'.defers → Q (.panic c) a w → Q (.panic c) a' w) :
    ∀ (n : Nat) (π : Plan) (c : Bool) (listed : Array Bool) (a : Act) (w : World), (c = true → C w) → Closed md l.toArray listed → planB md l.toArray F n c π listed = true → wpPlan P l C F Q π a w → wpAnyC P md l.toArray C F Q n listed a w := by
  intro n
  induction n with
  | zero =>
    intro π c listed a w hC hcl hB h
    cases π <;> simp only [planB, Bool.false_eq_true] at hB
    exact ⟨by simpa using hB, h⟩
  | succ n ih =>
    have step : ∀ (i : Nat) (p : Plan) (c : Bool) (listed : Array Bool) (a : Act) (w : World), (c = true → C w) → Closed md l.toArray listed → i ∈ Region.ready md l.toArray listed → planB md l.toArray F n (c && F i) p (listed.setIfInBounds i true) = true →
        wpStepP P l Q i (fun a' w' => (F i = true → C w') ∧ wpPlan P l C F Q p a' w') a w → wpOp P l.toArray Q i (fun a' w' => (F i = true → C w') ∧ wpAnyC P md l.toArray C F Q n (listed.setIfInBounds i true) a' w') a w := by
      intro i p c listed a w hC hcl hr hB ⟨o, ho0, hK⟩
      have ho : l.toArray[i]? = some o := by simpa using ho0
      refine wpOp_mono (fun a' w' h' => ⟨h'.1, ih p (c && F i) _ a' w' (fun hcf => ?_) (hcl.set hr) hB h'.2⟩) (wpOp_of_one ho hK)
      rw [Bool.and_eq_true] at hcf
      exact h'.1 hcf.2
    intro π c listed a w hC hcl hB h
    cases π with
    | done => simp [planB] at hB
    | yes i p =>
      obtain ⟨o, v, ho0, hy, hK⟩ := h
      have ho : l.toArray[i]? = some o := by simpa using ho0
      simp only [planB, Bool.and_eq_true] at hB
      obtain ⟨⟨⟨⟨hc, hr⟩, hf⟩, hb⟩, hrest⟩ := hB
      have hr' : i ∈ Region.ready md l.toArray listed := by simpa using hr
      exact wpAnyC_first ho (Region.noSelect_spec hsel) (fun ch a w h => hQ ch _ _ w (by cases o.dst <;> rfl) h) hb n listed a w (hC hc) hcl (Region.free_spec ho hf) hr' hy (ih p c _ _ _ hC (hcl.set hr') hrest hK)
    | one i p =>
      simp only [planB, Bool.and_eq_true] at hB
      have hr : Region.ready md l.toArray listed = [i] := by simpa using hB.1
      refine ⟨fun h0 => absurd h0 (by rw [hr]; simp), fun j hj => ?_⟩
      obtain rfl : j = i := by rw [hr] at hj; simpa using hj
      exact step j p c listed a w hC hcl hj hB.2 h
    | two i p j q =>
      simp only [planB, Bool.and_eq_true] at hB
      have hr : Region.ready md l.toArray listed = [i, j] := by simpa using hB.1.1
      refine ⟨fun h0 => absurd h0 (by rw [hr]; simp), fun k hk => ?_⟩
      have hk' : k = i ∨ k = j := by rw [hr] at hk; simpa using hk
      rcases hk' with rfl | rfl
      · exact step k p c listed a w hC hcl hk hB.1.2 h.1
      · exact step k q c listed a w hC hcl hk hB.2 h.2
    | three i p j q k r =>
      simp only [planB, Bool.and_eq_true] at hB
      have hr : Region.ready md l.toArray listed = [i, j, k] := by simpa using hB.1.1.1
      refine ⟨fun h0 => absurd h0 (by rw [hr]; simp), fun m hm => ?_⟩
      have hm' : m = i ∨ m = j ∨ m = k := by rw [hr] at hm; simpa using hm
      rcases hm' with rfl | rfl | rfl
      · exact step m p c listed a w hC hcl hm hB.1.1.2 h.1
      · exact step m q c listed a w hC hcl hm hB.1.2 h.2.1
      · exact step m r c listed a w hC hcl hm hB.2 h.2.2
theorem wp_region_plan {id : Nat} {a : Act} {w : World} {l : List Oper} (C : World → Prop) (F : List Nat) (π : Plan) (hm : P.follows .mixedOrders = true) (hQ : ∀ c a a' w, a.defers = a'.defers → Q (.panic c) a w → Q (.panic c) a' w)
    (hB : (Region.noSelect l.toArray && planB .any l.toArray (fun i => F.contains i) l.length true π (Array.replicate l.length false)) = true) (hC : C w.drew) (h : wpPlan P l C (fun i => F.contains i) Q π a w.drew) : (Code.region id l.toArray true).wp P Q a w := by
  simp only [Bool.and_eq_true] at hB
  obtain ⟨hsel, hst⟩ := hB
  refine wp_region_any hm (wpAny_of_C (C := C) (F := fun i => F.contains i) _ _ _ _ ?_)
  have h1 := wpAnyC_of_plan (P := P) (Q := Q) (C := C) (md := .any) hsel hQ l.length π true (Array.replicate l.length false) a w.drew (fun _ => hC) (fun j oj _ hl => by rw [getD_replicate_false] at hl; cases hl) hst h
  have hsz : l.toArray.size = l.length := by simp
  rw [hsz]
  exact h1
end
end Go.Proofs.Ytjifionpblpfoaa

/-
  The document's Check and xor of layer 16. Conditions: no more than 2^16 bytes.
-/
namespace Go.Proofs.Ytjifionpblpfoaa
open Go.RowKit
open Pol (co Sm)

/-- An envelope as a value. -/
abbrev evv (s : Int) (n f x : Nat) (A : Option Addr) (k c : Nat) : Value := .agg #[.int .i64 s, .int .u64 (n : Int), .int .u64 (f : Int), .int .u64 (x : Int), .slice A k c]
set_option maxHeartbeats 1600000 in
theorem ref16_check (s : Int) (n f x k c : Nat) (b : List Nat) (A : Option Addr) (w : World) (hk : b.length = k) :
    Calls Try.prog 20 #[evv s n f x A k c] w (Tells (.int .i64 ((Ev.chk ⟨s, n, f, x, b⟩ : Nat) : Int)) w) := by
  unfold Ev.chk
  dsimp only
  rw [hk]
  clear hk
  by_cases h1 : s < 0
  · have d1 : decide (s < 0) = true := decide_eq_true h1
    rw [if_pos (.inl h1)]
    go_enter Try.func20, Try.ntmps20
    go_wp2
    go_ret
    exact ⟨rfl, (Ext.refl _).alloc _⟩
  have d1 : decide (s < 0) = false := decide_eq_false h1
  by_cases h2 : 6 ≤ s
  · have d2 : decide (s ≥ 6) = true := decide_eq_true h2
    have d2' : decide (6 ≤ s) = true := decide_eq_true h2
    rw [if_pos (.inr h2)]
    go_enter Try.func20, Try.ntmps20
    go_wp2
    go_ret
    exact ⟨rfl, (Ext.refl _).alloc _⟩
  have d2 : decide (s ≥ 6) = false := decide_eq_false h2
  have d2' : decide (6 ≤ s) = false := decide_eq_false h2
  rw [if_neg (by omega)]
  by_cases h3 : 1152921504606846976 < f
  · have d3 : decide ((f : Int) > 1152921504606846976) = true := decide_eq_true (by omega)
    have d3' : decide ((1152921504606846976 : Int) < (f : Int)) = true := decide_eq_true (by omega)
    rw [if_pos h3]
    go_enter Try.func20, Try.ntmps20
    go_wp2
    go_ret
    exact ⟨rfl, (Ext.refl _).alloc _⟩
  have d3 : decide ((f : Int) > 1152921504606846976) = false := decide_eq_false (by omega)
  have d3' : decide ((1152921504606846976 : Int) < (f : Int)) = false := decide_eq_false (by omega)
  rw [if_neg h3]
  by_cases h4 : k < 1
  · have d4 : decide ((k : Int) < 1) = true := decide_eq_true (by omega)
    rw [if_pos (.inl h4)]
    go_enter Try.func20, Try.ntmps20
    go_wp2
    go_ret
    exact ⟨rfl, (Ext.refl _).alloc _⟩
  have d4 : decide ((k : Int) < 1) = false := decide_eq_false (by omega)
  by_cases h5 : 32 < k
  · have d5 : decide ((k : Int) > 32) = true := decide_eq_true (by omega)
    have d5' : decide ((32 : Int) < (k : Int)) = true := decide_eq_true (by omega)
    rw [if_pos (.inr h5)]
    go_enter Try.func20, Try.ntmps20
    go_wp2
    go_ret
    exact ⟨rfl, (Ext.refl _).alloc _⟩
  have d5 : decide ((k : Int) > 32) = false := decide_eq_false (by omega)
  have d5' : decide ((32 : Int) < (k : Int)) = false := decide_eq_false (by omega)
  rw [if_neg (by omega)]
  go_enter Try.func20, Try.ntmps20
  go_wp2
  go_ret
  exact ⟨rfl, (Ext.refl _).alloc _⟩
set_option maxHeartbeats 1600000 in
theorem ref16_xor (a b : List Nat) (A B : Option Addr) (n m ca cb : Nat) (w : World) (hn : a.length = n) (hm : b.length = m) (ha : Rd w A a) (hb : Rd w B b) (hnm : n ≤ m) (hl : n ≤ 65536) :
    Calls Try.prog 19 #[.slice A n ca, .slice B m cb] w (GivesM (lx a b) w) := by
  have HA := Lib.hid ha
  have HB := Lib.hid hb
  have HN := Lib.hid hn
  have HM := Lib.hid hm
  clear ha hb hn hm
  go_enter Try.func19, Try.ntmps19
  go_wp2
  go_loopg [5, 9] n (fun g s5 s9 wx => ∃ i : Nat, i + g = n ∧ s9 = .int .i64 (i : Int) ∧ Ext w wx ∧ Mine wx w.heap.size s5 (tab i fun k => co a k ^^^ co b k))
  case atStart => exact ⟨0, by omega, rfl, Ext.refl _, Mine.nil _ _⟩
  case round =>
    obtain ⟨i, hig, rfl, hx, hmi⟩ := hrel
    have HX := Lib.hid hx
    have HMI := Lib.hid hmi
    clear hx hmi
    cases gk with
    | zero =>
      obtain rfl : i = n := by omega
      clear hig
      go_wp2
      go_ret
      exact gives_m HMI.out (by unfold lx; rw [HN.out]) (lx_sm HA.out.1 HB.out.1) HX.out
    | succ g =>
      have hi : i < n := by omega
      have hiI : (i : Int) < (n : Int) := by omega
      have hiM : (i : Int) < (m : Int) := by omega
      have him : i < m := by omega
      obtain ⟨b1, o1, rfl, hc1⟩ := (HA.out.ext HX.out).2 i (by rw [HN.out]; exact hi)
      obtain ⟨b2, o2, rfl, hc2⟩ := (HB.out.ext HX.out).2 i (by rw [HM.out]; exact him)
      have y1 := HA.out.1 i
      have y2 := HB.out.1 i
      have hxx := u8_xor_nat _ _ y1 y2
      have hlt := Gf.xor_lt _ _ y1 y2
      have HIG := Lib.hid hig
      have hst := tab_succ i fun k => co a k ^^^ co b k
      have HST := Lib.hid hst
      have HT := Lib.hid (tab_len i fun k => co a k ^^^ co b k)
      clear hig y1 y2 hst
      obtain ⟨T1, hT1⟩ : ∃ T1, tab (i + 1) (fun k => co a k ^^^ co b k) = T1 := ⟨_, rfl⟩
      have HT1 := Lib.hid hT1.symm
      rw [hT1] at HST
      clear hT1
      generalize tab i (fun k => co a k ^^^ co b k) = T at *
      obtain ⟨z, hz⟩ : ∃ z, co a i ^^^ co b i = z := ⟨_, rfl⟩
      rw [hz] at HST hlt hxx
      clear hz
      generalize co a i = p at *
      generalize co b i = q at *
      go_wp2
      have HT0 := Lib.hid (show Two ⟨b1, o1 + i, none⟩ (.int .u8 (p : Int)) ⟨b2, o2 + i, none⟩ (.int .u8 (q : Int)) wr.drew from ⟨hc1, hc2⟩)
      refine wp_region_plan (Two ⟨b1, o1 + i, none⟩ (.int .u8 (p : Int)) ⟨b2, o2 + i, none⟩ (.int .u8 (q : Int))) [0, 1, 2, 3, 4, 5, 6, 7, 8, 9, 10] (.yes 0 (.yes 1 (.yes 2 (.yes 3 (.yes 4 (.yes 5 (.yes 6 (.yes 7 (.yes 8 (.yes 9 (.one 10 (.one 11 (.one 12 .done))))))))))))) (by kernel_rfl) (fun c a a' w e h => ⟨e ▸ h.1, h.2⟩) (by kernel_rfl) HT0.out ?_
      refine plan_yes rfl (fun K hK => ?_); go_simp; refine ⟨_, fun _ _ => rfl, hK _ ?_⟩; clear hK K
      refine plan_yes rfl (fun K hK => ?_); go_simp; refine ⟨_, fun _ _ => rfl, hK _ ?_⟩; clear hK K
      refine plan_yes rfl (fun K hK => ?_); go_simp; refine ⟨_, fun _ _ => rfl, hK _ ?_⟩; clear hK K
      refine plan_yes rfl (fun K hK => ?_); go_simp; refine ⟨_, fun _ _ => rfl, hK _ ?_⟩; clear hK K
      refine plan_yes rfl (fun K hK => ?_); go_simp; refine ⟨.int .u8 (p : Int), fun W hW => ?_, hK _ ?_⟩
      · have h1 := hW.1
        go_simp
      clear hK K
      refine plan_yes rfl (fun K hK => ?_); go_simp; refine ⟨_, fun _ _ => rfl, hK _ ?_⟩; clear hK K
      refine plan_yes rfl (fun K hK => ?_); go_simp; refine ⟨_, fun _ _ => rfl, hK _ ?_⟩; clear hK K
      refine plan_yes rfl (fun K hK => ?_); go_simp; refine ⟨_, fun _ _ => rfl, hK _ ?_⟩; clear hK K
      refine plan_yes rfl (fun K hK => ?_); go_simp; refine ⟨.int .u8 (q : Int), fun W hW => ?_, hK _ ?_⟩
      · have h1 := hW.2
        go_simp
      clear hK K
      refine plan_yes rfl (fun K hK => ?_); go_simp; refine ⟨.int .u8 (z : Int), fun _ _ => rfl, hK _ ?_⟩; clear hK K
      have HXQ := Lib.hid HX.out.drew
      have HMQ := Lib.hid (mine_ext HMI.out (Ext.refl wr).drew)
      clear hc1 hc2
      generalize wr.drew = wq at *
      have HTA := Lib.hid (show Two ⟨b1, o1 + i, none⟩ (.int .u8 (p : Int)) ⟨b2, o2 + i, none⟩ (.int .u8 (q : Int)) (wq.alloc (.cells #[.int .u8 (z : Int)] 5)) from ⟨(((Ext.refl wq).alloc _).below.cell (p := ⟨b1, o1 + i, none⟩) (block_lt_of_cell HT0.out.1)).trans HT0.out.1, (((Ext.refl wq).alloc _).below.cell (p := ⟨b2, o2 + i, none⟩) (block_lt_of_cell HT0.out.2)).trans HT0.out.2⟩)
      have HY := Lib.hid (rd_one wq z hlt)
      refine plan_one rfl (fun K hK => ?_)
      go_wp2
      refine ⟨by first | exact HTA.out | exact fun _ => HTA.out, ?_⟩
      refine plan_one rfl (fun K hK => ?_)
      go_wp2_with (first | (at_builtin; refine wpList_append_rd rfl (.tmp 12) (.tmp 22) rfl w.heap.size _ T [z] rfl (mine_ext HMQ.out ((Ext.refl _).alloc _)) (some ⟨wq.heap.size, 0, none⟩) 1 1 rfl rfl HY.out (by rw [HT.out]; simp; omega) ((HXQ.out.alloc _).size) ?_; intro v2 w2 hv2 hg2 _; rw [← HST.out] at hv2; have HV2 := Lib.hid hv2; have HX2 := Lib.hid ((HXQ.out.alloc _).more hg2 (fun k e => (HMQ.out.block k e).1)); clear hv2 hg2) | fail)
      refine ⟨fun h => absurd h (by decide), ?_⟩
      refine plan_one rfl (fun K hK => ?_)
      go_wp2
      refine ⟨fun h => absurd h (by decide), ?_⟩
      unfold wpPlan
      go_wp2
      go_roundg g
      case measure => omega
      case rel => exact ⟨i + 1, by have := HIG.out; omega, by go_num, HX2.out, by have h := HV2.out; rwa [HT1.out] at h⟩
end Go.Proofs.Ytjifionpblpfoaa

/-
  The document's Same of layer 16. Conditions: no more than 2^20 bytes.
-/
namespace Go.Proofs.Ytjifionpblpfoaa
open Go.RowKit
open Pol (co Sm)

/-- Are two envelopes alike? -/
def Ev.Same (e o : Ev) : Prop := e.s = o.s ∧ e.n = o.n ∧ e.f = o.f ∧ e.x = o.x ∧ e.b = o.b
instance (e o : Ev) : Decidable (Ev.Same e o) := inferInstanceAs (Decidable (_ ∧ _))
theorem Ev.same_iff {e o : Ev} : Ev.Same e o ↔ e = o := by
  obtain ⟨a, b, c, d, f⟩ := e
  obtain ⟨a', b', c', d', f'⟩ := o
  unfold Ev.Same
  simp
set_option maxHeartbeats 3200000 in
theorem ref16_same (s1 s2 : Int) (n1 f1 x1 k1 c1 n2 f2 x2 k2 c2 : Nat) (b1 b2 : List Nat) (A B : Option Addr) (w : World) (hk1 : b1.length = k1) (hk2 : b2.length = k2) (hr1 : Rd w A b1) (hr2 : Rd w B b2) (hl : k1 ≤ 1048576) :
    Calls Try.prog 10 #[evv s1 n1 f1 x1 A k1 c1, evv s2 n2 f2 x2 B k2 c2] w (Tells (.bool (decide (Ev.Same ⟨s1, n1, f1, x1, b1⟩ ⟨s2, n2, f2, x2, b2⟩))) w) := by
  have hx := ((Ext.refl w).alloc (.cells #[.int .i64 s1, .int .u64 (n1 : Int), .int .u64 (f1 : Int), .int .u64 (x1 : Int), .slice A k1 c1] 25)).alloc (.cells #[.int .i64 s2, .int .u64 (n2 : Int), .int .u64 (f2 : Int), .int .u64 (x2 : Int), .slice B k2 c2] 25)
  have HX := Lib.hid hx
  clear hx
  by_cases h0 : s1 = s2
  rotate_left
  · rw [decide_eq_false (fun h => h0 h.1)]
    have d1 : (s1 != s2) = true := by simp; omega
    have d2 : decide (s1 = s2) = false := decide_eq_false (by omega)
    have d3 : decide (s1 = s2) = false := decide_eq_false h0
    clear hk1 hk2 hr1 hr2
    go_enter Try.func10, Try.ntmps10
    go_wp2
    go_ret
    exact ⟨rfl, HX.out⟩
  subst h0
  by_cases h1 : n1 = n2
  rotate_left
  · rw [decide_eq_false (fun h => h1 h.2.1)]
    have d1 : ((n1 : Int) != (n2 : Int)) = true := by simp; omega
    have d2 : decide ((n1 : Int) = (n2 : Int)) = false := decide_eq_false (by omega)
    have d3 : decide (n1 = n2) = false := decide_eq_false h1
    clear hk1 hk2 hr1 hr2
    go_enter Try.func10, Try.ntmps10
    go_wp2
    go_ret
    exact ⟨rfl, HX.out⟩
  subst h1
  by_cases h2 : f1 = f2
  rotate_left
  · rw [decide_eq_false (fun h => h2 h.2.2.1)]
    have d1 : ((f1 : Int) != (f2 : Int)) = true := by simp; omega
    have d2 : decide ((f1 : Int) = (f2 : Int)) = false := decide_eq_false (by omega)
    have d3 : decide (f1 = f2) = false := decide_eq_false h2
    clear hk1 hk2 hr1 hr2
    go_enter Try.func10, Try.ntmps10
    go_wp2
    go_ret
    exact ⟨rfl, HX.out⟩
  subst h2
  by_cases h3 : x1 = x2
  rotate_left
  · rw [decide_eq_false (fun h => h3 h.2.2.2.1)]
    have d1 : ((x1 : Int) != (x2 : Int)) = true := by simp; omega
    have d2 : decide ((x1 : Int) = (x2 : Int)) = false := decide_eq_false (by omega)
    have d3 : decide (x1 = x2) = false := decide_eq_false h3
    clear hk1 hk2 hr1 hr2
    go_enter Try.func10, Try.ntmps10
    go_wp2
    go_ret
    exact ⟨rfl, HX.out⟩
  subst h3
  by_cases h4 : k1 = k2
  rotate_left
  · rw [decide_eq_false (fun h => h4 (by rw [← hk1, ← hk2]; exact congrArg List.length h.2.2.2.2))]
    have d1 : ((k1 : Int) != (k2 : Int)) = true := by simp; omega
    have d2 : decide ((k1 : Int) = (k2 : Int)) = false := decide_eq_false (by omega)
    have d3 : decide (k1 = k2) = false := decide_eq_false h4
    clear hk1 hk2 hr1 hr2
    go_enter Try.func10, Try.ntmps10
    go_wp2
    go_ret
    exact ⟨rfl, HX.out⟩
  subst h4
  have HR1 := Lib.hid (hr1.ext HX.out)
  have HR2 := Lib.hid (hr2.ext HX.out)
  have HK1 := Lib.hid hk1
  have HK2 := Lib.hid hk2
  have HT := Lib.hid (show ∀ i, i < k1 → co b1 i ≠ co b2 i → decide (Ev.Same ⟨s1, n1, f1, x1, b1⟩ ⟨s1, n1, f1, x1, b2⟩) = false from fun i _ h => decide_eq_false fun e => h (by rw [show b1 = b2 from e.2.2.2.2]))
  have HU := Lib.hid (show (∀ i, i < k1 → co b1 i = co b2 i) → decide (Ev.Same ⟨s1, n1, f1, x1, b1⟩ ⟨s1, n1, f1, x1, b2⟩) = true from fun h => decide_eq_true ⟨rfl, rfl, rfl, rfl, Lin.list_ext (hk1.trans hk2.symm) (fun i hi => h i (by have h2 : i < b1.length := hi; omega))⟩)
  have hg0 := (((Ext.refl w).alloc (.cells #[.int .i64 s1, .int .u64 (n1 : Int), .int .u64 (f1 : Int), .int .u64 (x1 : Int), .slice A k1 c1] 25)))
  have r1 : ((w.alloc (.cells #[.int .i64 s1, .int .u64 (n1 : Int), .int .u64 (f1 : Int), .int .u64 (x1 : Int), .slice A k1 c1] 25)).alloc (.cells #[.int .i64 s1, .int .u64 (n1 : Int), .int .u64 (f1 : Int), .int .u64 (x1 : Int), .slice B k1 c2] 25)).heap[w.heap.size]? = some (.cells #[.int .i64 s1, .int .u64 (n1 : Int), .int .u64 (f1 : Int), .int .u64 (x1 : Int), .slice A k1 c1] 25) := by
    rw [heap_alloc_old _ _ (by simp)]
    exact heap_alloc_new w _
  have r2 : ((w.alloc (.cells #[.int .i64 s1, .int .u64 (n1 : Int), .int .u64 (f1 : Int), .int .u64 (x1 : Int), .slice A k1 c1] 25)).alloc (.cells #[.int .i64 s1, .int .u64 (n1 : Int), .int .u64 (f1 : Int), .int .u64 (x1 : Int), .slice B k1 c2] 25)).heap[w.heap.size + 1]? = some (.cells #[.int .i64 s1, .int .u64 (n1 : Int), .int .u64 (f1 : Int), .int .u64 (x1 : Int), .slice B k1 c2] 25) := by
    have h := heap_alloc_new (w.alloc (.cells #[.int .i64 s1, .int .u64 (n1 : Int), .int .u64 (f1 : Int), .int .u64 (x1 : Int), .slice A k1 c1] 25)) (.cells #[.int .i64 s1, .int .u64 (n1 : Int), .int .u64 (f1 : Int), .int .u64 (x1 : Int), .slice B k1 c2] 25)
    rwa [show (w.alloc (.cells #[.int .i64 s1, .int .u64 (n1 : Int), .int .u64 (f1 : Int), .int .u64 (x1 : Int), .slice A k1 c1] 25)).heap.size = w.heap.size + 1 from by simp] at h
  have q1 := cell_of_row _ _ 4 _ _ _ r1
  have q2 := cell_of_row _ _ 4 _ _ _ r2
  have HQ := Lib.hid (And.intro q1 q2)
  clear hk1 hk2 hr1 hr2 hg0 r1 r2 q1 q2
  generalize decide (Ev.Same ⟨s1, n1, f1, x1, b1⟩ ⟨s1, n1, f1, x1, b2⟩) = r at *
  go_enter Try.func10, Try.ntmps10
  go_wp2
  obtain ⟨u, hu⟩ : ∃ u, (w.alloc (.cells #[.int .i64 s1, .int .u64 (n1 : Int), .int .u64 (f1 : Int), .int .u64 (x1 : Int), .slice A k1 c1] 25)).alloc (.cells #[.int .i64 s1, .int .u64 (n1 : Int), .int .u64 (f1 : Int), .int .u64 (x1 : Int), .slice B k1 c2] 25) = u := ⟨_, rfl⟩
  rw [hu] at HX HR1 HR2 HQ ⊢
  clear hu
  go_loopg [44] k1 (fun g s wx => ∃ i m : Nat, i + g = k1 ∧ s = .int .i64 (i : Int) ∧ wx = u.drewN m ∧ ∀ j, j < i → co b1 j = co b2 j)
  case atStart => exact ⟨0, 0, by omega, rfl, rfl, fun j h => absurd h (by omega)⟩
  case round =>
    obtain ⟨i, m, hig, rfl, rfl, hall⟩ := hrel
    have HALL := Lib.hid hall
    clear hall
    cases gk with
    | zero =>
      obtain rfl : i = k1 := by omega
      clear hig
      have hr := HU.out HALL.out
      subst hr
      go_wp2
      go_ret
      exact ⟨rfl, HX.out.drewN m⟩
    | succ g =>
      have hi : i < k1 := by omega
      have hiI : (i : Int) < (k1 : Int) := by omega
      obtain ⟨g1, o1, rfl, hc1⟩ := HR1.out.2 i (by rw [HK1.out]; exact hi)
      obtain ⟨g2, o2, rfl, hc2⟩ := HR2.out.2 i (by rw [HK2.out]; exact hi)
      obtain ⟨q1, q2⟩ := HQ.out
      have HIG := Lib.hid hig
      have HC := Lib.hid (HT.out i hi)
      have HE := Lib.hid (show co b1 i = co b2 i → ∀ j, j < i + 1 → co b1 j = co b2 j from fun h j hj => by
        by_cases e : j = i
        · subst e; exact h
        · exact HALL.out j (by omega))
      clear hig
      generalize co b1 i = x at *
      generalize co b2 i = y at *
      by_cases he : x = y
      · subst he
        have HE' := Lib.hid (HE.out rfl)
        have d0 : ((x : Int) != (x : Int)) = false := by simp
        clear HE HC
        go_wp2
        go_quiet (fail)
        go_wp2
        go_roundg g
        case measure => omega
        case rel => exact ⟨i + 1, _, by have := HIG.out; omega, by go_num, rfl, HE'.out⟩
      · have d0 : ((x : Int) != (y : Int)) = true := by simp; omega
        have d1 : decide ((x : Int) = (y : Int)) = false := decide_eq_false (by omega)
        have d2 : decide (x = y) = false := decide_eq_false he
        have hr := HC.out he
        subst hr
        clear HE HC he
        go_wp2
        go_quiet (fail)
        go_wp2
        go_ret
        exact ⟨rfl, (HX.out.drewN m).drewN nq⟩
end Go.Proofs.Ytjifionpblpfoaa

/-
  Parts of slices of bytes. Conditions: none; no function is named here.
-/
namespace Go.Proofs.Ytjifionpblpfoaa
open Go.RowKit
open Pol (co Sm)

/-- s[:h] of bytes. -/
theorem run_to_u8 (A : Option Addr) (len cap h : Nat) (hh : h ≤ cap) (W : World) :
    (Instr.slice 23 (.slice A len cap) none (some (.int .i64 (h : Int))) none).run Try.prog W = .ok (.slice A h cap) W := by
  obtain ⟨i0, hi, hz0, hz1, hz2⟩ := info_parts u8_info
  have he : Try.prog.elem 23 = 5 := by kernel_rfl
  rw [run_slice_h W 23 _ len cap (by rw [he]; exact Try.underlying23) .i64 (h : Int) (by omega) (by omega), he]
  cases A <;> simp [sizeOf, typeInfo, hi, hz1, Result.andThen, sliced, Addr.add]
/-- s[a:b] of bytes. -/
theorem run_cut_u8 (A : Option Addr) (len cap a b : Nat) (hab : a ≤ b) (hb : b ≤ cap) : ∃ X : Option Addr, (∀ W, (Instr.slice 23 (.slice A len cap) (some (.int .i64 (a : Int))) (some (.int .i64 (b : Int))) none).run Try.prog W = .ok (.slice X (b - a) (cap - a)) W) ∧
    ∀ w l, Rd w A l → b ≤ l.length → Rd w X (tab (b - a) (fun j => co l (a + j))) := by
  obtain ⟨i0, hi, hz0, hz1, hz2⟩ := info_parts u8_info
  have he : Try.prog.elem 23 = 5 := by kernel_rfl
  refine ⟨if cap = a then A else A.map (·.add a), fun W => ?_, fun w l h hl => ⟨tab_sm _ _ fun _ _ => h.1 _, fun i hi => ?_⟩⟩
  · rw [run_slice_lh W 23 _ len cap (by rw [he]; exact Try.underlying23) .i64 .i64 (a : Int) (b : Int) (by omega) (by omega) (by omega), he]
    cases A <;> simp [sizeOf, typeInfo, hi, hz1, Result.andThen, sliced]
  · rw [tab_len] at hi
    obtain ⟨b', o', e, hc⟩ := h.2 (a + i) (by omega)
    subst e
    refine ⟨b', o' + a, by rw [if_neg (by omega)]; simp [addr_add], ?_⟩
    rw [co_tab, if_pos hi, Nat.add_assoc]
    exact hc
/-- s[l:] of bytes, whole. -/
theorem run_rest_u8 (A : Option Addr) (len cap l : Nat) (hl : l ≤ len) (hc : len ≤ cap) : ∃ X : Option Addr, (∀ W, (Instr.slice 23 (.slice A len cap) (some (.int .i64 (l : Int))) none none).run Try.prog W = .ok (.slice X (len - l) (cap - l)) W) ∧
    (∀ w L, Rd w A L → L.length = len → Rd w X (tab (len - l) (fun j => co L (l + j)))) ∧ (∀ b o, l < cap → A = some ⟨b, o, none⟩ → X = some ⟨b, o + l, none⟩) := by
  obtain ⟨i0, hi, hz0, hz1, hz2⟩ := info_parts u8_info
  have he : Try.prog.elem 23 = 5 := by kernel_rfl
  refine ⟨if cap = l then A else A.map (·.add l), fun W => ?_, fun w L h hL => ⟨tab_sm _ _ fun _ _ => h.1 _, fun i hi => ?_⟩, fun b o h e => ?_⟩
  · rw [run_slice_l W 23 _ len cap (by rw [he]; exact Try.underlying23) .i64 (l : Int) (by omega) (by omega), he]
    cases A <;> simp [sizeOf, typeInfo, hi, hz1, Result.andThen, sliced]
  · rw [tab_len] at hi
    obtain ⟨b', o', e, hc⟩ := h.2 (l + i) (by omega)
    subst e
    refine ⟨b', o' + l, by rw [if_neg (by omega)]; simp [addr_add], ?_⟩
    rw [co_tab, if_pos hi, Nat.add_assoc]
    exact hc
  · subst e
    rw [if_neg (by omega)]
    simp [addr_add]

end Go.Proofs.Ytjifionpblpfoaa

/-
  What the document's own Fill and Strip of layer 6 do. Conditions: no more than 2^20 bytes.
-/
namespace Go.Proofs.Ytjifionpblpfoaa
open Go.RowKit
open Pol (co Sm)

/-- A filled text's bytes. -/
def fg (t : List Nat) (i : Nat) : Nat := if i = 0 then t.length else co t (i - 1)
theorem fg_sm {t : List Nat} (h : Sm t) (ht : t.length < 256) (k : Nat) : Sm (tab k (fg t)) := tab_sm _ _ fun i _ => by
  unfold fg
  split
  · exact ht
  · exact h _
theorem fg_start (t : List Nat) : [t.length] ++ t = tab (t.length + 1) (fg t) := by
  refine Lin.list_ext (by rw [tab_len, List.length_append]; simp; omega) fun i hi => ?_
  rw [co_tab, if_pos (by rw [List.length_append] at hi; simp at hi; omega)]
  unfold fg
  cases i with
  | zero => rfl
  | succ i => exact Pol.co_succ _ _ _
theorem fg_more (t : List Nat) (k : Nat) (h : t.length < k) : tab k (fg t) ++ [0] = tab (k + 1) (fg t) := by
  rw [tab_succ]
  unfold fg
  rw [if_neg (by omega), Pol.co_out _ _ (by omega)]

set_option maxHeartbeats 800000 in
theorem ref_fill_no (n : Nat) (m : Int) (A : Option Addr) (ca : Nat) (w : World) (h : ¬ FillOk n m) :
    Calls Try.prog 18 #[.slice A n ca, .int .i64 m] w (GivesE [] 6 w) := by
  unfold FillOk at h
  by_cases h1 : m < 1
  · have d1 : decide (m < 1) = true := decide_eq_true h1
    clear h
    go_enter Try.func18, Try.ntmps18
    go_wp2
    go_ret2
    exact ⟨_, rfl, sl_none _, Ext.refl w⟩
  have d1 : decide (m < 1) = false := decide_eq_false h1
  by_cases h2 : 256 < m
  · have d2 : decide (256 < m) = true := decide_eq_true h2
    clear h
    go_enter Try.func18, Try.ntmps18
    go_wp2
    go_ret2
    exact ⟨_, rfl, sl_none _, Ext.refl w⟩
  have d2 : decide (256 < m) = false := decide_eq_false h2
  have d3 : decide (m ≤ (n : Int)) = true := decide_eq_true (by omega)
  clear h
  go_enter Try.func18, Try.ntmps18
  go_wp2
  go_ret2
  exact ⟨_, rfl, sl_none _, Ext.refl w⟩

set_option maxHeartbeats 1600000 in
set_option maxRecDepth 100000 in
theorem ref_fill (t : List Nat) (m : Nat) (A : Option Addr) (ca : Nat) (w : World) (hr : Rd w A t) (h : FillOk t.length (m : Int)) :
    Calls Try.prog 18 #[.slice A t.length ca, .int .i64 (m : Int)] w (GivesE (fil t m) 0 w) := by
  obtain ⟨h1, h2, h3⟩ := h
  have HSM := Lib.hid (fg_sm hr.1 (by omega))
  have HST := Lib.hid (fg_start t)
  have HMO := Lib.hid (fg_more t)
  have HR := Lib.hid hr
  have HFE := Lib.hid (show fil t m = tab m (fg t) from rfl)
  have HM0 := Lib.hid (mine_one w t.length)
  clear hr
  generalize hn : t.length = n at *
  have HN := Lib.hid hn
  clear hn
  have d1 : decide ((m : Int) < 1) = false := decide_eq_false (by omega)
  have d2 : decide (256 < (m : Int)) = false := decide_eq_false (by omega)
  have d3 : decide ((m : Int) ≤ (n : Int)) = false := decide_eq_false (by omega)
  have ew : IntKind.u8.wrap (n : Int) = (n : Int) := IntWalk.u8_in _ (by omega)
  go_enter Try.func18, Try.ntmps18
  go_wp2_with (at_builtin; refine wpList_append_rd rfl (.tmp 22) (.tmp 23) rfl w.heap.size _ [n] t rfl HM0.out A n ca rfl HN.out (HR.out.ext ((Ext.refl _).alloc _)) (by rw [HN.out]; simp; omega) (by simp) ?_; intro v' w3 hown' hg' hat'; rw [HST.out] at hown'; have hx3 := ((Ext.refl w).alloc (.cells #[.int .u8 (n : Int)] 5)).more hg' (fun r e => (HM0.out.block r e).1); obtain ⟨Bv, cv, ev', hcv, _⟩ := hown'.slice (HSM.out _); rw [tab_len] at ev' hcv; subst ev'; have HO := Lib.hid hown'; have HX3 := Lib.hid hx3; clear hown' hg' hat' hx3)
  go_loopg [6] (m - (n + 1)) (fun gh s wx => ∃ (k : Nat) (B : Option Addr) (c : Nat), k + gh = m ∧ n + 1 ≤ k ∧ s = .slice B k c ∧ Mine wx w.heap.size (.slice B k c) (tab k (fg t)) ∧ Ext w wx)
  case atStart => exact ⟨n + 1, Bv, cv, by omega, Nat.le_refl _, rfl, HO.out, HX3.out⟩
  case round =>
    obtain ⟨k, B, c, hkg, hnk, rfl, hm, hx⟩ := hrel
    have HM := Lib.hid hm
    have HX := Lib.hid hx
    clear hm hx
    cases gk with
    | zero =>
      obtain rfl : k = m := by omega
      clear hkg
      go_wp2
      go_ret2
      rw [HFE.out]
      obtain ⟨B', c', e', hc', hr'⟩ := HM.out.slice (HSM.out _)
      exact ⟨_, rfl, ⟨B', c', e', hc', hr'⟩, HX.out⟩
    | succ gh =>
      have hk : k < m := by omega
      have hkI : (k : Int) < (m : Int) := by omega
      go_wp2_with (at_builtin; refine wpList_append_rd rfl (.tmp 29) (.tmp 30) rfl w.heap.size _ (tab k (fg t)) [0] rfl (mine_ext HM.out ((Ext.refl _).alloc _)) (some ⟨wr.heap.size, 0, none⟩) 1 1 rfl rfl (rd_one wr 0 (by omega)) (by rw [tab_len]; simp; omega) (by simp; have := HX.out.size; omega) ?_; intro v' w3 hown' hg' hat'; rw [HMO.out k (by omega)] at hown'; have hx3 := (HX.out.alloc (.cells #[.int .u8 0] 5)).more hg' (fun r e => (HM.out.block r e).1); obtain ⟨Bv, cv, ev', hcv, _⟩ := hown'.slice (HSM.out _); rw [tab_len] at ev' hcv; subst ev'; have HO := Lib.hid hown'; have HX3 := Lib.hid hx3; clear hown' hg' hat' hx3)
      go_roundg gh
      case measure => omega
      case rel => exact ⟨k + 1, Bv, cv, by omega, by omega, rfl, HO.out, HX3.out⟩

set_option maxHeartbeats 800000 in
theorem ref_strip_arg (n : Nat) (A : Option Addr) (ca : Nat) (w : World) (h : ¬ StripNum n) :
    Calls Try.prog 23 #[.slice A n ca] w (GivesE [] 1 w) := by
  unfold StripNum at h
  by_cases h1 : (n : Int) < 1
  · have d1 : decide ((n : Int) < 1) = true := decide_eq_true h1
    clear h
    go_enter Try.func23, Try.ntmps23
    go_wp2
    go_ret2
    exact ⟨_, rfl, sl_none _, Ext.refl w⟩
  have d1 : decide ((n : Int) < 1) = false := decide_eq_false h1
  have d2 : decide (256 < (n : Int)) = true := decide_eq_true (by omega)
  clear h
  go_enter Try.func23, Try.ntmps23
  go_wp2
  go_ret2
  exact ⟨_, rfl, sl_none _, Ext.refl w⟩
/-- What is stripped, or that nothing is. -/
def StripE (b : List Nat) (w : World) (e : Ending) (w' : World) : Prop := (Tail0 b ∧ GivesE (strp b) 0 w e w') ∨ (¬ Tail0 b ∧ GivesE [] 3 w e w')

theorem StripE.yes {b : List Nat} {w : World} {z : Nat} {B : Option Addr} {c : Nat} {w' : World} (hz : co b 0 = z) (h : z < b.length) (h0 : ∀ i, z < i → co b i = 0) (hc : z ≤ c) (hr : Rd w' B (tab z fun i => co b (i + 1))) (hx : Ext w w') : StripE b w (.returned (.tuple #[.slice B z c, .int .i64 0])) w' := by
  subst hz
  exact .inl ⟨⟨h, h0⟩, _, rfl, ⟨B, c, by rw [strp_len], by rw [strp_len]; exact hc, hr⟩, hx⟩
theorem StripE.no {b : List Nat} {w : World} {w' : World} (h : ¬ Tail0 b) (hx : Ext w w') : StripE b w (.returned (.tuple #[.slice none 0 0, .int .i64 3])) w' := .inr ⟨h, _, rfl, sl_none _, hx⟩

set_option maxHeartbeats 1600000 in
set_option maxRecDepth 100000 in
theorem ref_strip (b : List Nat) (A : Option Addr) (ca : Nat) (w : World) (hr : Rd w A b) (hca : b.length ≤ ca) (h : StripNum b.length) :
    Calls Try.prog 23 #[.slice A b.length ca] w (StripE b w) := by
  obtain ⟨h1, h2⟩ := h
  obtain ⟨b0, o0, e0, hc0⟩ := hr.2 0 (by omega)
  subst e0
  rw [Nat.add_zero] at hc0
  have hb0 := hr.1 0
  have hsm := hr.1
  obtain ⟨z, hz⟩ : ∃ z, co b 0 = z := ⟨_, rfl⟩
  rw [hz] at hc0 hb0
  have HYES := Lib.hid (fun B c w' => StripE.yes (w := w) (B := B) (c := c) (w' := w') hz)
  have HTL := Lib.hid (show Tail0 b ↔ z < b.length ∧ ∀ i, z < i → co b i = 0 from by unfold Tail0; rw [hz])
  have HR := Lib.hid hr
  have HSM := Lib.hid hsm
  have HOUT := Lib.hid (fun i (hi : b.length ≤ i) => Pol.co_out b i hi)
  generalize hn : b.length = n at *
  have HN := Lib.hid hn
  have hz256 : (z : Int) < 256 := by omega
  have d1 : decide ((n : Int) < 1) = false := decide_eq_false (by omega)
  have d2 : decide (256 < (n : Int)) = false := decide_eq_false (by omega)
  clear hr hsm hz hn
  by_cases hzn : z < n
  · have d3 : decide (n ≤ z) = false := decide_eq_false (by omega)
    obtain ⟨y, hy⟩ : ∃ y, z + 1 = y := ⟨_, rfl⟩
    have ey : IntKind.i64.wrap ((z : Int) + 1) = (y : Int) := by rw [IntWalk.i64_in _ (by omega)]; omega
    obtain ⟨X, hX, hXr⟩ := run_cut_u8 (some ⟨b0, o0, none⟩) n ca 1 y (by omega) (by omega)
    rw [show y - 1 = z from by omega] at hX hXr
    have hX' : ∀ W, (Instr.slice 23 (.slice (some ⟨b0, o0, none⟩) n ca) (some (.int .i64 1)) (some (.int .i64 (y : Int))) none).run Try.prog W = .ok (.slice X z (ca - 1)) W := hX
    have HXR := Lib.hid (fun W (hW : Ext w W) => show Rd W X (tab z fun i => co b (i + 1)) from by
      have h := hXr W b (HR.out.ext hW) (by rw [HN.out]; omega)
      rwa [show (fun j => co b (1 + j)) = fun j => co b (j + 1) from by funext j; rw [Nat.add_comm]] at h)
    obtain ⟨cc, hcc⟩ : ∃ cc, ca - 1 = cc := ⟨_, rfl⟩
    rw [hcc] at hX'
    have HCC := Lib.hid (show z ≤ cc by omega)
    have HY := Lib.hid hy
    have hyn : y ≤ n := by omega
    clear hX hXr hcc hy
    go_enter Try.func23, Try.ntmps23
    go_wp2
    go_loopg [5] (n - y) (fun g s wx => ∃ k : Nat, k + g = n ∧ s = .int .i64 (k : Int) ∧ y ≤ k ∧ (∀ j, z < j → j < k → co b j = 0) ∧ w = wx)
    case atStart => exact ⟨y, by omega, rfl, Nat.le_refl _, fun j h1 h2 => by have := HY.out; omega, rfl⟩
    case round =>
      obtain ⟨k, hkg, rfl, hyk, hall, rfl⟩ := hrel
      have HALL := Lib.hid hall
      clear hall
      cases gk with
      | zero =>
        obtain rfl : k = n := by omega
        clear hkg
        go_wp2
        go_ret2
        exact HYES.out _ _ _ hzn (fun j hj => by
          by_cases hjk : j < k
          · exact HALL.out j hj hjk
          · exact HOUT.out j (by omega)) HCC.out (HXR.out _ (Ext.refl _)) (Ext.refl _)
      | succ g =>
        have hk : k < n := by omega
        have hkI : (k : Int) < (n : Int) := by omega
        obtain ⟨b1, o1, e1, hc1⟩ := HR.out.2 k (by rw [HN.out]; exact hk)
        injection e1 with e1
        injection e1 with e1 e2
        subst e1; subst e2
        have hub := HSM.out k
        obtain ⟨u, hu⟩ : ∃ u, co b k = u := ⟨_, rfl⟩
        rw [hu] at hc1 hub
        by_cases hu0 : u = 0
        · subst hu0
          have HU := Lib.hid hu
          clear hu
          go_wp2
          go_roundg g
          case measure => omega
          case rel => exact ⟨k + 1, by omega, by go_num, by omega, fun j h1 h2 => by
            by_cases e : j = k
            · subst e; exact HU.out
            · exact HALL.out j h1 (by omega), rfl⟩
        · have t : ((u : Int) != 0) = true := by simp; omega
          have HNO := Lib.hid (show ¬ Tail0 b from fun h => hu0 (by
            rw [← hu]
            exact (HTL.out.1 h).2 k (by have := HY.out; omega)))
          clear hu0 hu
          go_wp2
          go_ret2
          exact StripE.no HNO.out (Ext.refl _)
  · have d3 : decide (n ≤ z) = true := decide_eq_true (by omega)
    have HNO := Lib.hid (show ¬ Tail0 b from fun h => hzn (HTL.out.1 h).1)
    clear hzn
    go_enter Try.func23, Try.ntmps23
    go_wp2
    go_ret2
    exact StripE.no HNO.out (Ext.refl _)
end Go.Proofs.Ytjifionpblpfoaa

/-
  Which orders the document's own Right of layer 14 takes. Conditions: none.
-/
namespace Go.Proofs.Ytjifionpblpfoaa
open Go.RowKit
open Pol (co Sm)

def RightN (k t : Int) (a n : Nat) : Prop := n ≤ 16 ∧ ((k = 1 ∧ 0 ≤ t ∧ t < 6) ∨ (k = 2 ∧ t = 0 ∧ a = 0))
instance (k t : Int) (a n : Nat) : Decidable (RightN k t a n) := inferInstanceAs (Decidable (_ ∧ _))
set_option maxHeartbeats 1600000 in
theorem ref14_right (k t : Int) (a n c : Nat) (A : Option Addr) (w : World) : Calls Try.prog 12 #[.agg #[.int .i64 k, .int .i64 t, .int .u64 (a : Int), .slice A n c]] w (Tells (.bool (decide (RightN k t a n))) w) := by
  by_cases h0 : 16 < n
  · have d0 : decide ((n : Int) > 16) = true := decide_eq_true (by omega)
    have d0' : decide (16 < (n : Int)) = true := decide_eq_true (by omega)
    rw [show decide (RightN k t a n) = false from decide_eq_false (by unfold RightN; omega)]
    go_enter Try.func12, Try.ntmps12
    go_wp2
    go_ret
    exact ⟨rfl, (Ext.refl _).alloc _⟩
  have d0 : decide ((n : Int) > 16) = false := decide_eq_false (by omega)
  have d0' : decide (16 < (n : Int)) = false := decide_eq_false (by omega)
  by_cases h1 : k = 1
  · by_cases h2 : 0 ≤ t
    · have d2 : decide (t ≥ 0) = true := decide_eq_true (by omega)
      have d2' : decide (0 ≤ t) = true := decide_eq_true (by omega)
      by_cases h3 : t < 6
      · have d3 : decide (t < 6) = true := decide_eq_true h3
        rw [show decide (RightN k t a n) = true from decide_eq_true (by unfold RightN; omega)]
        subst h1
        go_enter Try.func12, Try.ntmps12
        go_wp2
        go_ret
        exact ⟨rfl, (Ext.refl _).alloc _⟩
      · have d3 : decide (t < 6) = false := decide_eq_false h3
        rw [show decide (RightN k t a n) = false from decide_eq_false (by unfold RightN; omega)]
        subst h1
        go_enter Try.func12, Try.ntmps12
        go_wp2
        go_ret
        exact ⟨rfl, (Ext.refl _).alloc _⟩
    · have d2 : decide (t ≥ 0) = false := decide_eq_false (by omega)
      have d2' : decide (0 ≤ t) = false := decide_eq_false (by omega)
      rw [show decide (RightN k t a n) = false from decide_eq_false (by unfold RightN; omega)]
      subst h1
      go_enter Try.func12, Try.ntmps12
      go_wp2
      go_ret
      exact ⟨rfl, (Ext.refl _).alloc _⟩
  have d1 : (k == 1) = false := by simp; omega
  have d1' : decide (k = 1) = false := decide_eq_false h1
  by_cases h4 : k = 2
  · by_cases h5 : t = 0
    · by_cases h6 : a = 0
      · have HD := Lib.hid (show decide (RightN k t a n) = true from decide_eq_true (by unfold RightN; omega))
        rw [HD.out]
        subst h4 h5 h6
        go_enter Try.func12, Try.ntmps12
        go_wp2
        go_ret
        exact ⟨rfl, (Ext.refl _).alloc _⟩
      · have d6 : ((a : Int) == 0) = false := by simp; omega
        have d6' : decide ((a : Int) = 0) = false := decide_eq_false (by omega)
        have d6'' : decide (a = 0) = false := decide_eq_false h6
        have HD := Lib.hid (show decide (RightN k t a n) = false from decide_eq_false (by unfold RightN; omega))
        rw [HD.out]
        subst h4 h5
        go_enter Try.func12, Try.ntmps12
        go_wp2
        go_ret
        exact ⟨rfl, (Ext.refl _).alloc _⟩
    · have d5 : (t == 0) = false := by simp; omega
      have d5' : decide (t = 0) = false := decide_eq_false h5
      have HD := Lib.hid (show decide (RightN k t a n) = false from decide_eq_false (by unfold RightN; omega))
      rw [HD.out]
      subst h4
      go_enter Try.func12, Try.ntmps12
      go_wp2
      go_ret
      exact ⟨rfl, (Ext.refl _).alloc _⟩
  · have d4 : (k == 2) = false := by simp; omega
    have d4' : decide (k = 2) = false := decide_eq_false h4
    rw [show decide (RightN k t a n) = false from decide_eq_false (by unfold RightN; omega)]
    go_enter Try.func12, Try.ntmps12
    go_wp2
    go_ret
    exact ⟨rfl, (Ext.refl _).alloc _⟩
end Go.Proofs.Ytjifionpblpfoaa

/-
  What the document's own Number and Text of layer 8 do. Conditions: no more than 2^20 bytes.
-/
namespace Go.Proofs.Ytjifionpblpfoaa
open Go.RowKit
open Pol (co Sm)

/-- Bytes of a call's own. -/
def OwnE (l : List Nat) (w : World) (e : Ending) (w' : World) : Prop := ∃ v, e = .returned v ∧ Mine w' w.heap.size v l ∧ Ext w w'

set_option maxHeartbeats 1600000 in
set_option maxRecDepth 100000 in
theorem ref8_number (n : Nat) (w : World) (hn : n < 18446744073709551616) : Calls Try.prog 30 #[.int .u64 (n : Int)] w (OwnE (vn n) w) := by
  unfold OwnE
  have HSM := Lib.hid (vn_sm n)
  have HTEN := Lib.hid (vn_ten hn)
  have hn10 : n < 128 ^ (9 + 1) := by omega
  obtain ⟨V, hV⟩ : ∃ V, vn n = V := ⟨_, rfl⟩
  rw [hV] at HSM HTEN
  rw [hV]
  have HV := Lib.hid hV
  clear hV
  go_enter Try.func30, Try.ntmps30
  go_wp2
  go_loopg [0, 3] 9 (fun g s0 s3 wx => ∃ (m : Nat) (acc : List Nat) (B : Option Addr) (c : Nat), m < 128 ^ (g + 1) ∧ s0 = .int .u64 (m : Int) ∧ m < 18446744073709551616 ∧ acc ++ vn m = V ∧ s3 = .slice B acc.length c ∧ Mine wx w.heap.size (.slice B acc.length c) acc ∧ Ext w wx)
  case atStart => exact ⟨n, [], none, 0, hn10, rfl, hn, HV.out, rfl, Mine.nil _ _, Ext.refl _⟩
  case round =>
    obtain ⟨m, acc, B, c, hmg, rfl, hm64, hac, rfl, hmi, hx⟩ := hrel
    have HM := Lib.hid hmi
    have HX := Lib.hid hx
    have hlen : acc.length ≤ 10 := by have := HTEN.out; rw [← hac, List.length_append] at this; omega
    obtain ⟨la, hla⟩ : ∃ la, acc.length = la := ⟨_, rfl⟩
    have HLA := Lib.hid hla
    rw [hla] at HM hlen ⊢
    clear hmi hx hla
    by_cases h128 : m < 128
    · have d1 : decide (128 ≤ (m : Int)) = false := decide_eq_false (by omega)
      have e1 : IntKind.u8.wrap (m : Int) = (m : Int) := IntWalk.u8_in _ (by omega)
      have HAV := Lib.hid (show acc ++ [m] = V from by rw [← hac, vn_lt h128])
      have hm256 : m < 256 := by omega
      clear hac hmg
      go_wp2_with (at_builtin; refine wpList_append_rd rfl (.tmp 15) (.tmp 18) rfl w.heap.size _ acc [m] rfl (mine_ext HM.out ((Ext.refl _).alloc _)) (some ⟨wr.heap.size, 0, none⟩) 1 1 rfl rfl (rd_one wr m hm256) (by rw [HLA.out]; simp; omega) (by simp; have := HX.out.size; omega) ?_; intro v' w3 hown' hg' hat'; rw [HAV.out] at hown'; have hx3 := (HX.out.alloc (.cells #[.int .u8 (m : Int)] 5)).more hg' (fun r e => (HM.out.block r e).1); obtain ⟨Bv, cv, ev', hcv, _⟩ := hown'.slice HSM.out; subst ev'; have HO := Lib.hid hown'; have HX3 := Lib.hid hx3; clear hown' hg' hat' hx3)
      go_ret
      exact ⟨_, rfl, HO.out, HX3.out⟩
    · cases gk with
      | zero => omega
      | succ g =>
        have d1 : decide (128 ≤ (m : Int)) = true := decide_eq_true (by omega)
        obtain ⟨q, hq⟩ : ∃ q, m % 128 = q := ⟨_, rfl⟩
        obtain ⟨y, hy⟩ : ∃ y, q + 128 = y := ⟨_, rfl⟩
        obtain ⟨m2, hm2⟩ : ∃ m2, m / 128 = m2 := ⟨_, rfl⟩
        have e1 : (m : Int) % 128 = (q : Int) := by omega
        have e1' : (m : Int).tmod 128 = (q : Int) := by rw [Int.tmod_eq_emod_of_nonneg (by omega)]; exact e1
        have e2 : IntKind.u64.wrap (q : Int) = (q : Int) := by rw [IntKind.wrap_u64]; omega
        have e3 : IntKind.u64.wrap ((q : Int) + 128) = (y : Int) := by rw [IntKind.wrap_u64]; omega
        have e4 : IntKind.u8.wrap (y : Int) = (y : Int) := IntWalk.u8_in _ (by omega)
        have e5 : (m : Int) / 128 = (m2 : Int) := by omega
        have e5' : (m : Int).tdiv 128 = (m2 : Int) := by rw [Int.tdiv_eq_ediv_of_nonneg (by omega)]; exact e5
        have e6 : IntKind.u64.wrap (m2 : Int) = (m2 : Int) := by rw [IntKind.wrap_u64]; omega
        have hy256 : y < 256 := by omega
        have HAV := Lib.hid (show (acc ++ [y]) ++ vn m2 = V from by rw [← hac, vn_ge h128, List.append_assoc, hq, hy, hm2]; rfl)
        have HS9 := Lib.hid (show Sm (acc ++ [y]) from (sm_split (b := vn m2) (by rw [HAV.out]; exact HSM.out)).1)
        have HL9 := Lib.hid (show (acc ++ [y]).length = la + 1 by rw [List.length_append, HLA.out]; rfl)
        have hm2b : m2 < 128 ^ (g + 1) := by rw [← hm2]; rw [Nat.pow_succ] at hmg; omega
        have hm2c : m2 < 18446744073709551616 := by omega
        clear hac hq hy hm2 hmg
        go_wp2_with (at_builtin; refine wpList_append_rd rfl (.tmp 6) (.tmp 11) rfl w.heap.size _ acc [y] rfl (mine_ext HM.out ((Ext.refl _).alloc _)) (some ⟨wr.heap.size, 0, none⟩) 1 1 rfl rfl (rd_one wr y hy256) (by rw [HLA.out]; simp; omega) (by simp; have := HX.out.size; omega) ?_; intro v' w3 hown' hg' hat'; have hx3 := (HX.out.alloc (.cells #[.int .u8 (y : Int)] 5)).more hg' (fun r e => (HM.out.block r e).1); obtain ⟨Bv, cv, ev', hcv, _⟩ := hown'.slice HS9.out; rw [HL9.out] at ev'; subst ev'; have HO := Lib.hid hown'; have HX3 := Lib.hid hx3; clear hown' hg' hat' hx3)
        go_roundg g
        case measure => omega
        case rel => exact ⟨m2, acc ++ [y], Bv, cv, hm2b, rfl, hm2c, HAV.out, by rw [HL9.out], by rw [HL9.out]; exact HO.out, HX3.out⟩

set_option maxHeartbeats 1600000 in
theorem ref8_text (s : List Nat) (A : Option Addr) (ca : Nat) (w : World) (hr : Rd w A s) (hl : s.length ≤ 1048576) : Calls Try.prog 31 #[.slice A s.length ca] w (OwnE (vt s) w) := by
  have HN := Lib.hid (ref8_number s.length w (by omega))
  have HR := Lib.hid hr
  have HS := Lib.hid (vt_sm hr.1)
  have HSN := Lib.hid (vn_sm s.length)
  have HTEN := Lib.hid (vn_ten (n := s.length) (by omega))
  have HVT := Lib.hid (show vn s.length ++ s = vt s from rfl)
  unfold OwnE at *
  clear hr
  generalize hn : s.length = n at *
  have HL := Lib.hid hn
  clear hn
  have e1 : IntKind.u64.wrap (n : Int) = (n : Int) := by rw [IntKind.wrap_u64]; omega
  generalize vn n = V at *
  go_enter Try.func31, Try.ntmps31
  go_wp2_with fail
  refine HN.out.mono ?_
  rintro e w1 ⟨v, rfl, hm, hx⟩
  obtain ⟨B, c, ev, hc, _⟩ := hm.slice HSN.out
  subst ev
  have HM := Lib.hid hm
  have HX := Lib.hid hx
  clear hm hx
  obtain ⟨lv, hlv⟩ : ∃ lv, V.length = lv := ⟨_, rfl⟩
  have HLV := Lib.hid hlv
  rw [hlv] at HM hc HTEN ⊢
  clear hlv
  go_wp2_with (at_builtin; refine wpList_append_rd rfl (.tmp 6) (.tmp 7) rfl w.heap.size _ V s rfl HM.out A n ca rfl HL.out (HR.out.ext HX.out) (by rw [HLV.out, HL.out]; have := HTEN.out; omega) (by have := HX.out.size; omega) ?_; intro v' w3 hown' hg' hat'; rw [HVT.out] at hown'; have hx3 := HX.out.more hg' (fun r e => (HM.out.block r e).1); obtain ⟨Bv, cv, ev', hcv, _⟩ := hown'.slice HS.out; subst ev'; have HO := Lib.hid hown'; have HX3 := Lib.hid hx3; clear hown' hg' hat' hx3)
  go_ret
  exact ⟨_, rfl, HO.out, HX3.out⟩
end Go.Proofs.Ytjifionpblpfoaa

/-
  Worlds that differ in some blocks alone. Conditions: none; no function is named here.
-/
namespace Go.Proofs.Ytjifionpblpfoaa
open Go.RowKit

/-- What was there is as it was, but for the blocks of X. -/
structure Only (X : Nat → Prop) (w w' : World) : Prop where
  os : w'.os = w.os
  tape : w'.tape = w.tape
  output : w'.output = w.output
  size : w.heap.size ≤ w'.heap.size
  block : ∀ k, k < w.heap.size → ¬ X k → w'.heap[k]? = w.heap[k]?
theorem Only.refl (X : Nat → Prop) (w : World) : Only X w w := ⟨rfl, rfl, rfl, Nat.le_refl _, fun _ _ _ => rfl⟩
theorem Only.trans {X : Nat → Prop} {a b c : World} (h : Only X a b) (k : Only X b c) : Only X a c :=
  ⟨k.os.trans h.os, k.tape.trans h.tape, k.output.trans h.output, Nat.le_trans h.size k.size, fun i hi hx => (k.block i (Nat.lt_of_lt_of_le hi h.size) hx).trans (h.block i hi hx)⟩
theorem Only.of_grown {X : Nat → Prop} {w w' : World} {row : Option Nat} (h : w.grownBy w' row) (hr : ∀ k, row = some k → X k) : Only X w w' :=
  ⟨h.os, h.tape, h.output, h.size, fun k hk hx => h.block k hk (fun e => hx (hr k e.symm))⟩
theorem Only.of_ext {X : Nat → Prop} {w w' : World} (h : Ext w w') : Only X w w' := ⟨h.below.os, h.below.tape, h.below.output, h.below.size, fun k hk _ => h.below.block k hk⟩
theorem Only.drewN {X : Nat → Prop} {a w : World} (h : Only X a w) (n : Nat) : Only X a (w.drewN n) := ⟨h.os, h.tape, h.output, h.size, h.block⟩
theorem Only.mono {X Y : Nat → Prop} {w w' : World} (h : Only X w w') (hxy : ∀ k, k < w.heap.size → X k → Y k) : Only Y w w' := ⟨h.os, h.tape, h.output, h.size, fun k hk hy => h.block k hk (fun hx => hy (hxy k hk hx))⟩
theorem Only.ext {X : Nat → Prop} {a w w' : World} (h : Only X w w') (hx : Ext a w) (hX : ∀ k, X k → a.heap.size ≤ k) : Ext a w' :=
  ⟨hx.below.trans ⟨h.os, h.tape, h.output, h.size, fun k hk => h.block k (Nat.lt_of_lt_of_le hk hx.size) (fun hk' => by have := hX k hk'; omega)⟩⟩
theorem Only.cell {X : Nat → Prop} {w w' : World} (h : Only X w w') {b o : Nat} {v : Value} (hc : w.cell? ⟨b, o, none⟩ = some v) (hx : ¬ X b) : w'.cell? ⟨b, o, none⟩ = some v :=
  (World.cell?_of_block (a := ⟨b, o, none⟩) (h.block b (block_lt_of_cell hc) hx)).trans hc
theorem Only.frozen {X : Nat → Prop} {w w' : World} (h : Only X w w') {b o : Nat} (hb : b < w.heap.size) (hx : ¬ X b) : w'.frozen? ⟨b, o, none⟩ = w.frozen? ⟨b, o, none⟩ :=
  World.frozen?_of_block (a := ⟨b, o, none⟩) (h.block b hb hx)
end Go.Proofs.Ytjifionpblpfoaa

/-
  Cells and blocks stay where worlds only grow. Conditions: none; no function is named here.
-/
namespace Go.Proofs.Ytjifionpblpfoaa
open Go.RowKit

theorem Ext.at {w w' : World} (h : Ext w w') {b o : Nat} {v : Value} (hc : w.cell? ⟨b, o, none⟩ = some v) : w'.cell? ⟨b, o, none⟩ = some v :=
  (h.below.cell (p := ⟨b, o, none⟩) (block_lt_of_cell hc)).trans hc
theorem Ext.row {w w' : World} (h : Ext w w') {b : Nat} {x : Obj} (hc : w.heap[b]? = some x) : w'.heap[b]? = some x :=
  (h.below.block b (Array.getElem?_eq_some_iff.1 hc).1).trans hc
theorem row_lt {w : World} {b : Nat} {x : Obj} (hc : w.heap[b]? = some x) : b < w.heap.size := (Array.getElem?_eq_some_iff.1 hc).1
theorem Only.row {X : Nat → Prop} {w w' : World} (h : Only X w w') {b : Nat} {x : Obj} (hc : w.heap[b]? = some x) (hx : ¬ X b) : w'.heap[b]? = some x := (h.block b (row_lt hc) hx).trans hc
theorem grown_block (w : World) (g : Nat) (V : Array Value) : w.grownBy (w.setRow g V) (some g) :=
  ⟨rfl, rfl, rfl, by simp [World.setRow], fun k _ hne => setRow_other w g k V (fun e => hne (by rw [e]))⟩
end Go.Proofs.Ytjifionpblpfoaa

/-
  What the document's own Encode of layer 14 does. Conditions: no more than 2^16 bytes.
-/
namespace Go.Proofs.Ytjifionpblpfoaa
open Go.RowKit
open Pol (co Sm)

/-- The bytes of an order, and the error's number. -/
def EncR (o : Od) (w : World) (e : Ending) (w' : World) : Prop :=
  Ext w w' ∧ ∃ B n c, e = .returned (.tuple #[.slice B n c, .int .i64 ((o.code : Nat) : Int)]) ∧ o.bytes.length = n ∧ n ≤ c ∧ Rd w' B o.bytes
theorem EncR.no {o : Od} {w : World} (h : ¬ o.right) {w' : World} (hx : Ext w w') : EncR o w (.returned (.tuple #[.slice none 0 0, .int .i64 1])) w' := by
  refine ⟨hx, none, 0, 0, ?_, ?_, Nat.le_refl _, ?_⟩
  · unfold Od.code; rw [if_neg h]; rfl
  · unfold Od.bytes; rw [if_neg h]; rfl
  · unfold Od.bytes; rw [if_neg h]; exact Rd.nil _ _
theorem mine_two14 (w : World) (x y : Nat) : Mine (w.alloc (.cells #[.int .u8 (x : Int), .int .u8 (y : Int)] 5)) w.heap.size (.slice (some ⟨w.heap.size, 0, none⟩) 2 2) [x, y] :=
  World.ownsRow_lit w #[.int .u8 (x : Int), .int .u8 (y : Int)] 2 (Nat.le_refl _) (by decide) rfl
theorem right_is {k t : Int} {a : Nat} {m : List Nat} {n : Nat} (h : m.length = n) : decide (RightN k t a n) = decide (Od.right ⟨k, t, a, m⟩) := by
  subst h
  exact decide_eq_decide.2 Iff.rfl
set_option maxHeartbeats 3200000 in
set_option maxRecDepth 100000 in
theorem ref14_encode (k t : Int) (a n c : Nat) (m : List Nat) (A : Option Addr) (w : World) (hn : m.length = n) (hr : Rd w A m) (hl : n ≤ 65536) (ha : a < 18446744073709551616) :
    Calls Try.prog 17 #[.agg #[.int .i64 k, .int .i64 t, .int .u64 (a : Int), .slice A n c]] w (EncR ⟨k, t, a, m⟩ w) := by
  have HRI := Lib.hid (fun u => ref14_right k t a n c A u)
  rw [right_is hn] at HRI
  have hx0 := (Ext.refl w).alloc (.cells #[.int .i64 k, .int .i64 t, .int .u64 (a : Int), .slice A n c] 27)
  have HX0 := Lib.hid hx0
  by_cases ho : Od.right ⟨k, t, a, m⟩
  · rw [decide_eq_true ho] at HRI
    obtain ⟨b1, b2, b3, b4, _⟩ := Od.right_bounds ho
    dsimp only at b1 b2 b3 b4
    have HE := Lib.hid (show Od.bytes ⟨k, t, a, m⟩ = [k.toNat, t.toNat] ++ vn a ++ vt m ∧ Od.code ⟨k, t, a, m⟩ = 0 from by
      unfold Od.bytes Od.code Od.enc
      rw [if_pos ho, if_pos ho]
      dsimp only
      rw [vn_lt (show k.toNat < 128 by omega), vn_lt (show t.toNat < 128 by omega)]
      exact ⟨rfl, rfl⟩)
    have HSM := Lib.hid (Od.bytes_sm (o := ⟨k, t, a, m⟩) hr.1)
    obtain ⟨kk, rfl⟩ : ∃ q : Nat, (q : Int) = k := ⟨k.toNat, by omega⟩
    obtain ⟨tt, rfl⟩ : ∃ q : Nat, (q : Int) = t := ⟨t.toNat, by omega⟩
    rw [Int.toNat_natCast, Int.toNat_natCast] at HE
    have w8 : IntKind.u8.wrap (kk : Int) = (kk : Int) := by rw [IntKind.wrap_u8]; omega
    have w8' : IntKind.u8.wrap (tt : Int) = (tt : Int) := by rw [IntKind.wrap_u8]; omega
    have HNUM := Lib.hid (fun u => ref8_number a u ha)
    have HTEN := Lib.hid (vn_ten ha)
    have HSMN := Lib.hid (vn_sm a)
    have HTXT := Lib.hid (fun u (h : Ext w u) => show Calls Try.prog 31 #[.slice A n c] u (OwnE (vt m) u) from by
      have h := ref8_text m A c u (hr.ext h) (by omega)
      rwa [hn] at h)
    have HSMT := Lib.hid (vt_sm hr.1)
    have HVT := Lib.hid (show (vt m).length ≤ 65546 from by
      unfold vt
      have h1 := vn_ten (n := m.length) (by omega)
      rw [List.length_append]
      omega)
    unfold EncR
    rw [HE.out.2]
    rw [HE.out.1] at HSM ⊢
    have hkI : (0 : Int) ≤ (kk : Int) := by omega
    clear hr ho HE b1 b2 b3 b4 hx0
    obtain ⟨VA, hVA⟩ : ∃ V, vn a = V := ⟨_, rfl⟩
    obtain ⟨VT, hVT⟩ : ∃ V, vt m = V := ⟨_, rfl⟩
    rw [hVA] at HNUM HTEN HSMN HSM ⊢
    rw [hVT] at HTXT HSMT HVT HSM ⊢
    clear hVA hVT
    have b0 := cell_of_row _ w.heap.size 0 _ _ _ (heap_alloc_new w (.cells #[.int .i64 (kk : Int), .int .i64 (tt : Int), .int .u64 (a : Int), .slice A n c] 27))
    have b1 := cell_of_row _ w.heap.size 1 _ _ _ (heap_alloc_new w (.cells #[.int .i64 (kk : Int), .int .i64 (tt : Int), .int .u64 (a : Int), .slice A n c] 27))
    have b2 := cell_of_row _ w.heap.size 2 _ _ _ (heap_alloc_new w (.cells #[.int .i64 (kk : Int), .int .i64 (tt : Int), .int .u64 (a : Int), .slice A n c] 27))
    have b3 := cell_of_row _ w.heap.size 3 _ _ _ (heap_alloc_new w (.cells #[.int .i64 (kk : Int), .int .i64 (tt : Int), .int .u64 (a : Int), .slice A n c] 27))
    simp only [List.getElem?_toArray, List.getElem?_cons_zero, List.getElem?_cons_succ] at b0 b1 b2 b3
    have HB := Lib.hid (And.intro b0 (And.intro b1 (And.intro b2 b3)))
    clear b0 b1 b2 b3
    go_enter Try.func17, Try.ntmps17
    go_wp2_with fail
    refine (HRI.out _).mono ?_
    rintro e w1 ⟨rfl, hx1⟩
    obtain ⟨q0, q1, q2, q3⟩ := HB.out
    have c0 := hx1.at q0
    have c1 := hx1.at q1
    have hx2 := hx1.trans ((Ext.refl w1).alloc (.cells #[.int .u8 (kk : Int), .int .u8 (tt : Int)] 5))
    have c2 := hx2.at q2
    have HX2 := Lib.hid (HX0.out.trans hx2)
    have HB2 := Lib.hid (hx2.at q3)
    have HM2 := Lib.hid (mine_two14 w1 kk tt)
    have HS1 := Lib.hid (HX0.out.trans hx1).size
    have HS1' := Lib.hid (show w.heap.size + 1 ≤ w1.heap.size from by have h := hx1.size; simp at h; exact h)
    clear hx1 hx2 q0 q1 q2 q3
    go_wp2_with fail
    refine (HNUM.out _).mono ?_
    rintro e w3 ⟨v3, rfl, hm3, hx3⟩
    obtain ⟨B3, c3, rfl, hc3, hr3⟩ := hm3.slice HSMN.out
    have HX3 := Lib.hid (HX2.out.trans hx3)
    have HB3 := Lib.hid (hx3.at HB2.out)
    have HM3 := Lib.hid ((mine_ext HM2.out hx3).down (base' := w.heap.size) HS1.out)
    have HR3 := Lib.hid hr3
    obtain ⟨la, hla⟩ : ∃ q, VA.length = q := ⟨_, rfl⟩
    have HLA := Lib.hid hla
    rw [hla] at hc3 HTEN ⊢
    clear hx3 hm3 hr3 hla HM2 HB2
    go_wp2_with (first | (at_builtin; refine wpList_append_rd rfl (.tmp 15) (.tmp 18) rfl w.heap.size _ [kk, tt] VA rfl HM3.out B3 la c3 rfl HLA.out HR3.out (by rw [HLA.out]; have := HTEN.out; simp; omega) HX3.out.size ?_; intro v4 w4 hm4 hg4 _; have hx4 := HX3.out.more hg4 (fun r e => (HM3.out.block r e).1); have HX4 := Lib.hid hx4; have hb4 := hg4.cell HB3.out (fun e => by change some _ = some _ at e; injection e with e; dsimp only at e; have h := HS1'.out; omega); have HM4 := Lib.hid hm4; clear hm4 hg4 hx4) | fail)
    refine (HTXT.out _ HX4.out).mono ?_
    rintro e w5 ⟨v5, rfl, hm5, hx5⟩
    obtain ⟨B5, c5, rfl, hc5, hr5⟩ := hm5.slice HSMT.out
    have HX5 := Lib.hid (HX4.out.trans hx5)
    have HM5 := Lib.hid (mine_ext HM4.out hx5)
    have HR5 := Lib.hid hr5
    obtain ⟨lt, hlt⟩ : ∃ q, VT.length = q := ⟨_, rfl⟩
    have HLT := Lib.hid hlt
    rw [hlt] at hc5 HVT ⊢
    clear hx5 hm5 hr5 hlt HM4 hb4 HM3 HB3
    go_wp2_with (first | (at_builtin; refine wpList_append_rd rfl (.tmp 20) (.tmp 23) rfl w.heap.size _ ([kk, tt] ++ VA) VT rfl HM5.out B5 lt c5 rfl HLT.out HR5.out (by rw [HLT.out, List.length_append, HLA.out]; have := HTEN.out; have := HVT.out; simp; omega) HX5.out.size ?_; intro v6 w6 hm6 hg6 _; have HX6 := Lib.hid (HX5.out.more hg6 (fun r e => (HM5.out.block r e).1)); obtain ⟨B6, c6, rfl, hc6, hr6⟩ := hm6.slice HSM.out; have HR6 := Lib.hid hr6; have HC6 := Lib.hid hc6; clear hm6 hg6 hr6 hc6) | fail)
    go_ret2
    have h6 := HC6.out
    simp only [List.length_append, List.length_cons, List.length_nil] at h6
    exact ⟨HX6.out, _, _, _, rfl, by simp, by omega, HR6.out⟩
  · rw [decide_eq_false ho] at HRI
    have HO := Lib.hid ho
    clear hr hx0 ho
    go_enter Try.func17, Try.ntmps17
    go_wp2_with fail
    refine (HRI.out _).mono ?_
    rintro e w1 ⟨rfl, hx1⟩
    have HX1 := Lib.hid (HX0.out.trans hx1)
    clear hx1
    go_wp2
    go_ret2
    exact EncR.no HO.out HX1.out
end Go.Proofs.Ytjifionpblpfoaa

/-
  Bytes in a block of a call's own, that are changed one by one; what stays while other blocks are written. Conditions: none.
-/
namespace Go.Proofs.Ytjifionpblpfoaa
open Go.RowKit
open Pol (co Sm trim)

/-- The first n cells of block g are the bytes F, and may be written. -/
def Cells (w : World) (g n : Nat) (F : Nat → Nat) : Prop := ∀ i, i < n → w.cell? ⟨g, i, none⟩ = some (.int .u8 ((F i : Nat) : Int)) ∧ w.frozen? ⟨g, i, none⟩ = false
theorem Blk.cells {w : World} {g n : Nat} {F : Nat → Nat} (h : Blk w g n F) : Cells w g n F := fun i hi => ⟨h.cell i hi, h.frozen i⟩
theorem Cells.drewN {w : World} {g n : Nat} {F : Nat → Nat} (h : Cells w g n F) (k : Nat) : Cells (w.drewN k) g n F := h
theorem Cells.congr {w : World} {g n : Nat} {F F' : Nat → Nat} (h : Cells w g n F) (hf : ∀ i, i < n → F i = F' i) : Cells w g n F' := fun i hi => ⟨by rw [(h i hi).1, hf i hi], (h i hi).2⟩
theorem Cells.store {w : World} {g n : Nat} {F : Nat → Nat} (h : Cells w g n F) (k v : Nat) : Cells (w.setCell ⟨g, k, none⟩ (.int .u8 (v : Int))) g n (upd F k v) := fun i hi => by
  refine ⟨?_, by rw [World.frozen?_setCell]; exact (h i hi).2⟩
  unfold upd
  by_cases e : i = k
  · subst e
    rw [if_pos rfl]
    exact World.cell?_setCell_same' _ _ _ (by rw [(h i hi).1]; rfl)
  · rw [if_neg e, World.cell?_setCell_other _ _ _ _ (fun h => e (by cases h; rfl))]
    exact (h i hi).1
theorem Cells.keep {w w' : World} {g n : Nat} {F : Nat → Nat} {row : Option Nat} (h : Cells w g n F) (hg : w.grownBy w' row) (hne : some g ≠ row) : Cells w' g n F := fun i hi =>
  ⟨hg.cell (h i hi).1 hne, (World.frozen?_of_block (a := ⟨g, i, none⟩) (hg.block g (block_lt_of_cell (h i hi).1) hne)).trans (h i hi).2⟩
theorem Cells.ext {w w' : World} {g n : Nat} {F : Nat → Nat} (h : Cells w g n F) (hx : Ext w w') : Cells w' g n F := fun i hi =>
  ⟨(hx.below.cell (p := ⟨g, i, none⟩) (block_lt_of_cell (h i hi).1)).trans (h i hi).1, (hx.below.frozen (p := ⟨g, i, none⟩) (block_lt_of_cell (h i hi).1)).trans (h i hi).2⟩
theorem Cells.reads {w : World} {g n : Nat} {F : Nat → Nat} (h : Cells w g n F) (hs : ∀ i, i < n → F i < 256) : Rd w (some ⟨g, 0, none⟩) (tab n F) :=
  ⟨tab_sm n F hs, fun i hi => ⟨g, 0, rfl, by
    rw [tab_len] at hi
    rw [Nat.zero_add, (h i hi).1, co_tab, if_pos hi]⟩⟩
theorem Rd.keep {w w' : World} {A : Option Addr} {l : List Nat} {row : Option Nat} (h : Rd w A l) (hg : w.grownBy w' row) (hne : ∀ b o, A = some ⟨b, o, none⟩ → 0 < l.length → some b ≠ row) : Rd w' A l :=
  ⟨h.1, fun i hi => by
    obtain ⟨b, o, e, hc⟩ := h.2 i hi
    exact ⟨b, o, e, hg.cell hc (hne b o e (by omega))⟩⟩
theorem grown_set (w : World) (g o : Nat) (v : Value) : w.grownBy (w.setCell ⟨g, o, none⟩ v) (some g) :=
  ⟨rfl, rfl, rfl, by simp [World.setCell], fun k _ hk => Below.heap_setCell _ _ _ k (fun e => hk (by rw [e]))⟩
theorem grown_drewN (w : World) (n : Nat) (row : Option Nat) : w.grownBy (w.drewN n) row := ⟨rfl, rfl, rfl, Nat.le_refl _, fun _ _ _ => rfl⟩
theorem Ext.grown {w w' : World} (h : Ext w w') (row : Option Nat) : w.grownBy w' row := ⟨h.below.os, h.below.tape, h.below.output, h.below.size, fun k hk _ => h.below.block k hk⟩

/-- s[l:] of bytes, where the capacity goes on. -/
theorem run_from_u8 (g o len cap l : Nat) (h : l ≤ len) (hc : l < cap) (W : World) :
    (Instr.slice 23 (.slice (some ⟨g, o, none⟩) len cap) (some (.int .i64 (l : Int))) none none).run Try.prog W = .ok (.slice (some ⟨g, o + l, none⟩) (len - l) (cap - l)) W := by
  obtain ⟨i0, hi, hz0, hz1, hz2⟩ := info_parts u8_info
  have he : Try.prog.elem 23 = 5 := by kernel_rfl
  rw [run_slice_l W 23 _ len cap (by rw [he]; exact Try.underlying23) .i64 (l : Int) (by omega) (by omega), he]
  simp [sizeOf, typeInfo, hi, hz1, Result.andThen, sliced, addr_add]
  omega

/-- A slice of the call's own, as cells that may be written. -/
theorem Mine.cells {w : World} {base : Nat} {v : Value} {l : List Nat} (hm : Mine w base v l) : ∃ A c g, v = .slice A l.length c ∧ l.length ≤ c ∧ (0 < l.length → A = some ⟨g, 0, none⟩ ∧ base ≤ g) ∧ Cells w g l.length (co l) := by
  rcases hm.2 with ⟨rfl, hn⟩ | ⟨g, cap, cur, rfl, hb, hg, hnc, _, _, htake⟩
  · have : l = [] := List.eq_nil_of_length_eq_zero hn
    subst this
    exact ⟨none, 0, 0, rfl, Nat.le_refl _, fun h => absurd h (by simp), fun i hi => absurd hi (by simp)⟩
  · refine ⟨_, cap, g, rfl, hnc, fun _ => ⟨rfl, hb⟩, fun i hi => ⟨?_, frozen_of_row w g i cur _ hg⟩⟩
    rw [cell_of_row w g i cur _ _ hg, ← bv_at l i hi, ← htake, List.getElem?_take, if_pos (by omega)]
    simp
end Go.Proofs.Ytjifionpblpfoaa

/-
  The document's Make of layer 16. Conditions: no more than 2^16 bytes.
-/
namespace Go.Proofs.Ytjifionpblpfoaa
open Go.RowKit
open Pol (co Sm)

theorem ev_in16 {a b c d e : Value} : (Try.prog.info? 25).map (·.size) = some (#[a, b, c, d, e] : Array Value).size := by kernel_rfl
theorem tx_in16 {a b c d : Value} : (Try.prog.info? 27).map (·.size) = some (#[a, b, c, d] : Array Value).size := by kernel_rfl
theorem ev_size16 : (#[.int .i64 0, .int .u64 0, .int .u64 0, .int .u64 0, .slice none 0 0] : Array Value).size = (#[.int .i64 0, .int .u64 0, .int .u64 0, .int .u64 0, .slice none 0 0] : Array Value).size := rfl
theorem results_ev16 {fn : Func} {p u : Tmp} (h : fn.results = #[.cell p 25, .tmp u]) (tmps : Array Value) (w : World) (g : Nat) (t : TypeId) (cs : Array Value) (fr : Nat × Nat)
    (hp : tmps.getD p undef = .pointer (some ⟨g, 0, none⟩)) (hg : w.heap[g]? = some (.cells cs t fr)) (hi : (Try.prog.info? 25).map (·.size) = some cs.size) :
    (results fn tmps).run Try.prog w = .ok (.tuple #[.agg cs, tmps.getD u undef]) w := by
  have hl := run_loadVar_row w g t 25 cs fr _ hg Try.underlying25 rfl hi
  rw [results_cell_tmp h, hp]
  simp [asAddr, Result.andThen, hl]
/-- An envelope that is handed back, and the error's number. -/
def EvR (r : Nat × Ev) (w : World) (e : Ending) (w' : World) : Prop :=
  Ext w w' ∧ ∃ B k c, e = .returned (.tuple #[evv r.2.s r.2.n r.2.f r.2.x B k c, .int .i64 ((r.1 : Nat) : Int)]) ∧ r.2.b.length = k ∧ k ≤ c ∧ Rd w' B r.2.b
theorem evR_no {r : Nat × Ev} {w w' : World} {m : Nat} (h : r = (m, Ev.zero)) (hx : Ext w w') : EvR r w (.returned (.tuple #[.agg #[.int .i64 0, .int .u64 0, .int .u64 0, .int .u64 0, .slice none 0 0], .int .i64 (m : Int)])) w' := by
  subst h
  exact ⟨hx, none, 0, 0, rfl, rfl, Nat.le_refl _, Rd.nil _ _⟩
set_option maxHeartbeats 6400000 in
set_option maxRecDepth 100000 in
theorem ref16_make (s : Int) (nn f x : Nat) (k t : Int) (a n c : Nat) (m p : List Nat) (A B : Option Addr) (np cp : Nat) (w : World) (hn : m.length = n) (hr : Rd w A m) (hl : n ≤ 65536) (ha : a < 18446744073709551616) (hp : p.length = np) (hq : Rd w B p) (hlp : np ≤ 65536) :
    Calls Try.prog 7 #[.int .i64 s, .int .u64 (nn : Int), .int .u64 (f : Int), .int .u64 (x : Int), .agg #[.int .i64 k, .int .i64 t, .int .u64 (a : Int), .slice A n c], .slice B np cp] w (EvR (make16 s nn f x ⟨k, t, a, m⟩ p) w) := by
  have hx2 := ((Ext.refl w).alloc (.cells #[.int .i64 k, .int .i64 t, .int .u64 (a : Int), .slice A n c] 27)).alloc (.cells #[.int .i64 0, .int .u64 0, .int .u64 0, .int .u64 0, .slice none 0 0] 25)
  have hg0 : ((w.alloc (.cells #[.int .i64 k, .int .i64 t, .int .u64 (a : Int), .slice A n c] 27)).alloc (.cells #[.int .i64 0, .int .u64 0, .int .u64 0, .int .u64 0, .slice none 0 0] 25)).heap[w.heap.size]? = some (.cells #[.int .i64 k, .int .i64 t, .int .u64 (a : Int), .slice A n c] 27) := by
    rw [heap_alloc_old _ _ (by simp)]
    exact heap_alloc_new w _
  have hr0 : ((w.alloc (.cells #[.int .i64 k, .int .i64 t, .int .u64 (a : Int), .slice A n c] 27)).alloc (.cells #[.int .i64 0, .int .u64 0, .int .u64 0, .int .u64 0, .slice none 0 0] 25)).heap[w.heap.size + 1]? = some (.cells #[.int .i64 0, .int .u64 0, .int .u64 0, .int .u64 0, .slice none 0 0] 25) := by
    have h := heap_alloc_new (w.alloc (.cells #[.int .i64 k, .int .i64 t, .int .u64 (a : Int), .slice A n c] 27)) (.cells #[.int .i64 0, .int .u64 0, .int .u64 0, .int .u64 0, .slice none 0 0] 25)
    rwa [show (w.alloc (.cells #[.int .i64 k, .int .i64 t, .int .u64 (a : Int), .slice A n c] 27)).heap.size = w.heap.size + 1 from by simp] at h
  have HENC := Lib.hid (ref14_encode k t a n c m A ((w.alloc (.cells #[.int .i64 k, .int .i64 t, .int .u64 (a : Int), .slice A n c] 27)).alloc (.cells #[.int .i64 0, .int .u64 0, .int .u64 0, .int .u64 0, .slice none 0 0] 25)) hn (hr.ext hx2) hl ha)
  have HX2 := Lib.hid hx2
  have HG0 := Lib.hid hg0
  have HR0 := Lib.hid hr0
  have HP := Lib.hid hp
  have HQ := Lib.hid hq
  have HSB := Lib.hid (Od.bytes_sm (o := ⟨k, t, a, m⟩) hr.1)
  have HBL := Lib.hid (Od.bytes_len (o := ⟨k, t, a, m⟩) ha)
  clear hx2 hg0 hr0 hr hp hq
  go_enter Try.func7, Try.ntmps7
  go_wp2_with (with_reducible refine wpList_load_row rfl 27 (.tmp 10) rfl w.heap.size rfl 27 #[.int .i64 k, .int .i64 t, .int .u64 (a : Int), .slice A n c] (0, 0) _ HG0.out Try.underlying27 rfl tx_in16 ?_)
  refine HENC.out.mono ?_
  rintro e w1 ⟨hx1, A1, n1, c1, rfl, hn1, hc1, hr1⟩
  have HX1 := Lib.hid (HX2.out.trans hx1)
  have HR1 := Lib.hid (hx1.row HR0.out)
  have HB1 := Lib.hid hr1
  have HN1 := Lib.hid (And.intro hn1 hc1)
  clear hx1 hr1 hn1 hc1 HX2 HG0 HR0 HENC
  by_cases ho : Od.right ⟨k, t, a, m⟩
  rotate_left
  · have HDN := Lib.hid (fun w' (hx : Ext w w') => evR_no (show make16 s nn f x ⟨k, t, a, m⟩ p = (1, Ev.zero) from by unfold make16; rw [if_pos ho]) hx)
    have hcode : Od.code ⟨k, t, a, m⟩ = 1 := by unfold Od.code; rw [if_neg ho]
    rw [hcode]
    clear ho hcode
    have hone : (#[.int .i64 0, .int .u64 0, .int .u64 0, .int .u64 0, .slice none 0 0] : Array Value).all (·.oneCell') = true := by simp [Value.oneCell']
    have HXF := Lib.hid (HX1.out.setRow (g := w.heap.size + 1) (by omega) #[.int .i64 0, .int .u64 0, .int .u64 0, .int .u64 0, .slice none 0 0])
    have HGF := Lib.hid (setRow_heap w1 (w.heap.size + 1) _ #[.int .i64 0, .int .u64 0, .int .u64 0, .int .u64 0, .slice none 0 0] _ _ HR1.out)
    go_wp2_with (with_reducible refine wpList_store_all rfl 25 (.tmp 12) (.tmp 26) rfl (w.heap.size + 1) _ #[.int .i64 0, .int .u64 0, .int .u64 0, .int .u64 0, .slice none 0 0] rfl rfl HR1.out ev_in16 ev_size16 hone ?_)
    refine bodyPost_ret (results_ev16 Try.results7 _ _ (w.heap.size + 1) 25 _ (0, 0) rfl HGF.out ev_in16) rfl ?_
    exact HDN.out _ HXF.out
  have hcode : Od.code ⟨k, t, a, m⟩ = 0 := by unfold Od.code; rw [if_pos ho]
  rw [hcode]
  obtain ⟨bs, hbs⟩ : ∃ bs, Od.bytes ⟨k, t, a, m⟩ = bs := ⟨_, rfl⟩
  rw [hbs] at HB1 HN1 HSB HBL
  have HBS := Lib.hid hbs
  clear hcode hbs
  by_cases hf : FillOk bs.length (np : Int)
  rotate_left
  · have HDN := Lib.hid (fun w' (hx : Ext w w') => evR_no (show make16 s nn f x ⟨k, t, a, m⟩ p = (6, Ev.zero) from by unfold make16; rw [if_neg (by simpa using ho), HBS.out, HP.out, if_pos hf]) hx)
    have HFL := Lib.hid (ref_fill_no bs.length (np : Int) A1 c1 w1 hf)
    rw [HN1.out.1] at HFL
    clear ho hf
    go_wp2_with fail
    refine HFL.out.mono ?_
    rintro e w2 ⟨v2, rfl, hs2, hx2⟩
    have HX3 := Lib.hid (HX1.out.trans hx2)
    have HR3 := Lib.hid (hx2.row HR1.out)
    clear hs2 hx2
    have hone : (#[.int .i64 0, .int .u64 0, .int .u64 0, .int .u64 0, .slice none 0 0] : Array Value).all (·.oneCell') = true := by simp [Value.oneCell']
    have HXF := Lib.hid (HX3.out.setRow (g := w.heap.size + 1) (by omega) #[.int .i64 0, .int .u64 0, .int .u64 0, .int .u64 0, .slice none 0 0])
    have HGF := Lib.hid (setRow_heap w2 (w.heap.size + 1) _ #[.int .i64 0, .int .u64 0, .int .u64 0, .int .u64 0, .slice none 0 0] _ _ HR3.out)
    go_wp2_with (with_reducible refine wpList_store_all rfl 25 (.tmp 12) (.tmp 37) rfl (w.heap.size + 1) _ #[.int .i64 0, .int .u64 0, .int .u64 0, .int .u64 0, .slice none 0 0] rfl rfl HR3.out ev_in16 ev_size16 hone ?_)
    refine bodyPost_ret (results_ev16 Try.results7 _ _ (w.heap.size + 1) 25 _ (0, 0) rfl HGF.out ev_in16) rfl ?_
    exact HDN.out _ HXF.out
  have HFL := Lib.hid (ref_fill bs np A1 c1 w1 HB1.out hf)
  rw [HN1.out.1] at HFL
  have hf2 := hf.2.1
  go_wp2_with fail
  refine HFL.out.mono ?_
  rintro e w2 ⟨v2, rfl, ⟨B2, c2, rfl, hc2, hr2⟩, hx2⟩
  rw [fil_len] at hc2 ⊢
  have HX3 := Lib.hid (HX1.out.trans hx2)
  have HR3 := Lib.hid (hx2.row HR1.out)
  have HXO := Lib.hid (ref16_xor (fil bs np) p B2 B np np c2 cp w2 (fil_len bs np) HP.out hr2 (HQ.out.ext (HX1.out.trans hx2)) (Nat.le_refl _) hlp)
  clear hx2 hr2 hc2 HX1 HR1
  go_wp2_with fail
  refine HXO.out.mono ?_
  rintro e w3 ⟨v4, rfl, hm4, hs4, hx4⟩
  obtain ⟨B4, c4, rfl, hc4, hr4⟩ := hm4.slice hs4
  have HFF := Lib.hid (show ∀ q o, B4 = some ⟨q, o, none⟩ → q ≠ w.heap.size + 1 from fun q o e => by
    have h1 := (hm4.block q (by rw [e]; rfl)).1
    have h2 := row_lt HR3.out
    omega)
  rw [lx_len, fil_len] at hc4 ⊢
  have HX4 := Lib.hid (HX3.out.trans hx4)
  have HR4 := Lib.hid (hx4.row HR3.out)
  have HB4 := Lib.hid hr4
  have HLT := Lib.hid (show w.heap.size + 1 < w3.heap.size from row_lt (hx4.row HR3.out))
  have hrz := heap_alloc_new w3 (.cells #[.int .i64 0, .int .u64 0, .int .u64 0, .int .u64 0, .slice none 0 0] 25)
  have HZ3 := Lib.hid hrz
  have HSV := Lib.hid (show (#[.int .i64 0, .int .u64 0, .int .u64 0, .int .u64 0, .slice none 0 0] : Array Value).size = (#[.int .i64 s, .int .u64 (nn : Int), .int .u64 (f : Int), .int .u64 (x : Int), .slice B4 np c4] : Array Value).size from rfl)
  have hone4 : (#[.int .i64 s, .int .u64 (nn : Int), .int .u64 (f : Int), .int .u64 (x : Int), .slice B4 np c4] : Array Value).all (·.oneCell') = true := by simp [Value.oneCell']
  have HXa := Lib.hid (HX4.out.alloc (.cells #[.int .i64 s, .int .u64 (nn : Int), .int .u64 (f : Int), .int .u64 (x : Int), .slice B4 np c4] 25))
  have HRa := Lib.hid (((Ext.refl w3).alloc (.cells #[.int .i64 s, .int .u64 (nn : Int), .int .u64 (f : Int), .int .u64 (x : Int), .slice B4 np c4] 25)).row HR4.out)
  have HVa := Lib.hid (heap_alloc_new w3 (.cells #[.int .i64 s, .int .u64 (nn : Int), .int .u64 (f : Int), .int .u64 (x : Int), .slice B4 np c4] 25))
  have HBa := Lib.hid (HB4.out.ext ((Ext.refl w3).alloc (.cells #[.int .i64 s, .int .u64 (nn : Int), .int .u64 (f : Int), .int .u64 (x : Int), .slice B4 np c4] 25)))
  obtain ⟨b4, hb4⟩ : ∃ q, lx (fil bs np) p = q := ⟨_, rfl⟩
  have hl4 : b4.length = np := by rw [← hb4, lx_len, fil_len]
  rw [hb4] at HBa
  have HM := Lib.hid (show make16 s nn f x ⟨k, t, a, m⟩ p = if (Ev.mk s nn f x b4).chk ≠ 0 then ((Ev.mk s nn f x b4).chk, Ev.zero) else (0, Ev.mk s nn f x b4) from by
    unfold make16
    rw [if_neg (by simpa using ho), HBS.out, HP.out, if_neg (by simpa using hf), hb4])
  have HCK := Lib.hid (fun u => ref16_check s nn f x np c4 b4 B4 u hl4)
  have HL4 := Lib.hid (And.intro hl4 hc4)
  clear hm4 hs4 hx4 hr4 hrz HXO HB4 hb4 hf ho hl4
  obtain ⟨ck, hck⟩ : ∃ q, (Ev.mk s nn f x b4).chk = q := ⟨_, rfl⟩
  rw [hck] at HCK HM
  clear hck hc4
  go_wp2_with (first | (with_reducible refine wpList_store_all rfl 25 (.tmp 17) (.tmp 46) rfl w3.heap.size _ #[.int .i64 s, .int .u64 (nn : Int), .int .u64 (f : Int), .int .u64 (x : Int), .slice B4 np c4] rfl rfl HZ3.out ev_in16 HSV.out hone4 ?_; rw [World.setRow_alloc_new]) | (with_reducible refine wpList_load_row rfl 25 (.tmp 17) rfl w3.heap.size rfl 25 #[.int .i64 s, .int .u64 (nn : Int), .int .u64 (f : Int), .int .u64 (x : Int), .slice B4 np c4] (0, 0) _ HVa.out Try.underlying25 rfl ev_in16 ?_))
  generalize w3.alloc (.cells #[.int .i64 s, .int .u64 (nn : Int), .int .u64 (f : Int), .int .u64 (x : Int), .slice B4 np c4] 25) = w5 at *
  refine (HCK.out w5).mono ?_
  rintro e w6 ⟨rfl, hx6⟩
  have HX6 := Lib.hid (HXa.out.trans hx6)
  have HR6 := Lib.hid (hx6.row HRa.out)
  have HV6 := Lib.hid (hx6.row HVa.out)
  have HB6 := Lib.hid (HBa.out.ext hx6)
  clear hx6
  by_cases hc0 : ck = 0
  · rw [if_neg (by simpa using hc0)] at HM
    subst hc0
    have HXF := Lib.hid (HX6.out.setRow (g := w.heap.size + 1) (by omega) #[.int .i64 s, .int .u64 (nn : Int), .int .u64 (f : Int), .int .u64 (x : Int), .slice B4 np c4])
    have HGF := Lib.hid (setRow_heap w6 (w.heap.size + 1) _ #[.int .i64 s, .int .u64 (nn : Int), .int .u64 (f : Int), .int .u64 (x : Int), .slice B4 np c4] _ _ HR6.out)
    go_wp2_with (first | (with_reducible refine wpList_load_row rfl 25 (.tmp 17) rfl w3.heap.size rfl 25 #[.int .i64 s, .int .u64 (nn : Int), .int .u64 (f : Int), .int .u64 (x : Int), .slice B4 np c4] (0, 0) _ HV6.out Try.underlying25 rfl ev_in16 ?_) | (with_reducible refine wpList_store_all rfl 25 (.tmp 12) (.tmp 53) rfl (w.heap.size + 1) _ #[.int .i64 s, .int .u64 (nn : Int), .int .u64 (f : Int), .int .u64 (x : Int), .slice B4 np c4] rfl rfl HR6.out ev_in16 HSV.out hone4 ?_))
    refine bodyPost_ret (results_ev16 Try.results7 _ _ (w.heap.size + 1) 25 _ (0, 0) rfl HGF.out ev_in16) rfl ?_
    rw [HM.out]
    exact ⟨HXF.out, B4, np, c4, rfl, HL4.out.1, HL4.out.2, HB6.out.keep (grown_block w6 (w.heap.size + 1) #[.int .i64 s, .int .u64 (nn : Int), .int .u64 (f : Int), .int .u64 (x : Int), .slice B4 np c4]) (fun q o e h0 e2 => by injection e2 with e2; exact HFF.out q o e e2)⟩
  · have HDN := Lib.hid (fun w' (hx : Ext w w') => evR_no (HM.out.trans (if_pos hc0)) hx)
    have d1 : ((ck : Int) == 0) = false := by simp; omega
    have d2 : ((ck : Int) != 0) = true := by simp; omega
    have d3 : decide ((ck : Int) = 0) = false := decide_eq_false (by omega)
    have d4 : decide (ck = 0) = false := decide_eq_false hc0
    clear hc0
    have hone : (#[.int .i64 0, .int .u64 0, .int .u64 0, .int .u64 0, .slice none 0 0] : Array Value).all (·.oneCell') = true := by simp [Value.oneCell']
    have HXF := Lib.hid (HX6.out.setRow (g := w.heap.size + 1) (by omega) #[.int .i64 0, .int .u64 0, .int .u64 0, .int .u64 0, .slice none 0 0])
    have HGF := Lib.hid (setRow_heap w6 (w.heap.size + 1) _ #[.int .i64 0, .int .u64 0, .int .u64 0, .int .u64 0, .slice none 0 0] _ _ HR6.out)
    go_wp2_with (with_reducible refine wpList_store_all rfl 25 (.tmp 12) (.tmp 51) rfl (w.heap.size + 1) _ #[.int .i64 0, .int .u64 0, .int .u64 0, .int .u64 0, .slice none 0 0] rfl rfl HR6.out ev_in16 ev_size16 hone ?_)
    refine bodyPost_ret (results_ev16 Try.results7 _ _ (w.heap.size + 1) 25 _ (0, 0) rfl HGF.out ev_in16) rfl ?_
    exact HDN.out _ HXF.out
end Go.Proofs.Ytjifionpblpfoaa

/-
  Two slices that read as one list are the same to the statements' own comparison. Conditions: none.
-/
namespace Go.Proofs.Ytjifionpblpfoaa
open Go.RowKit
open Pol (co Sm)

set_option maxHeartbeats 400000 in
set_option maxRecDepth 100000 in
theorem same_true (l : List Nat) (A B : Option Addr) (ca cb : Nat) (w : World) (ha : Rd w A l) (hb : Rd w B l) (hl : l.length ≤ 1048576) :
    Calls Try.prog 25 #[.slice A l.length ca, .slice B l.length cb] w (Hands (.bool true) w) := by
  generalize hn : l.length = n at *
  have HA := Lib.hid ha
  have HB := Lib.hid hb
  have HN := Lib.hid hn
  clear ha hb hn
  go_enter Try.func25, Try.ntmps25
  go_wp2
  go_loopg [13] n (fun g s wx => ∃ k m : Nat, k + g = n ∧ s = .int .i64 (k : Int) ∧ wx = w.drewN m)
  case atStart => exact ⟨0, 0, by omega, rfl, rfl⟩
  case round =>
    obtain ⟨k, m, hkg, rfl, rfl⟩ := hrel
    cases gk with
    | zero =>
      obtain rfl : k = n := by omega
      clear hkg
      go_wp2
      go_ret
      exact ⟨rfl, m, rfl⟩
    | succ g =>
      have hk : k < n := by omega
      obtain ⟨b, o, rfl, hc⟩ := HA.out.2 k (by rw [HN.out]; exact hk)
      obtain ⟨b', o', rfl, hc'⟩ := HB.out.2 k (by rw [HN.out]; exact hk)
      have hkI : (k : Int) < (n : Int) := by omega
      go_wp2
      go_quiet (fail)
      go_wp2
      go_roundg g
      case measure => omega
      case rel => exact ⟨k + 1, _, by omega, by go_num, rfl⟩
theorem same_tells (l : List Nat) (A B : Option Addr) (ca cb : Nat) (w : World) (ha : Rd w A l) (hb : Rd w B l) (hl : l.length ≤ 1048576) :
    Calls Try.prog 25 #[.slice A l.length ca, .slice B l.length cb] w (Tells (.bool true) w) := (same_true l A B ca cb w ha hb hl).mono fun _ _ h => h.tells
end Go.Proofs.Ytjifionpblpfoaa

/-
  What it is to lay something behind bytes of a call's own. Conditions: none; no function is named here.
-/
namespace Go.Proofs.Ytjifionpblpfoaa
open Go.RowKit
open Pol (co Sm)

/-- What lays something behind bytes of a call's own. -/
def Lays (base : Nat) (v : Value) (l : List Nat) (w : World) (e : Ending) (w' : World) : Prop :=
  ∃ v', e = .returned v' ∧ Mine w' base v' l ∧ w.grownBy w' v.ownBlock ∧ (v'.ownBlock = v.ownBlock ∨ ∃ k, v'.ownBlock = some k ∧ w.heap.size ≤ k)
/-- From v in world w on, vx has come in world wx. -/
def LayS (w wx : World) (v vx : Value) : Prop := w.grownBy wx v.ownBlock ∧ (vx.ownBlock = v.ownBlock ∨ ∃ k, vx.ownBlock = some k ∧ w.heap.size ≤ k)
theorem LayS.refl (w : World) (v : Value) : LayS w w v v := ⟨⟨rfl, rfl, rfl, Nat.le_refl _, fun _ _ _ => rfl⟩, .inl rfl⟩
theorem LayS.step {w wx w' : World} {v vx v' : Value} (h : LayS w wx v vx) (hg : wx.grownBy w' vx.ownBlock) (ha : v'.ownBlock = vx.ownBlock ∨ v'.ownBlock = some wx.heap.size) : LayS w w' v v' := by
  refine ⟨⟨hg.os.trans h.1.os, hg.tape.trans h.1.tape, hg.output.trans h.1.output, Nat.le_trans h.1.size hg.size, fun k hk hne => (hg.block k (Nat.lt_of_lt_of_le hk h.1.size) ?_).trans (h.1.block k hk hne)⟩, ?_⟩
  · intro e
    rcases h.2 with e' | ⟨b, e', hb⟩
    · exact hne (e.trans e')
    · rw [e'] at e
      injection e with e
      omega
  · rcases ha with e | e
    · rcases h.2 with e' | ⟨b, e', hb⟩
      · exact .inl (e.trans e')
      · exact .inr ⟨b, e.trans e', hb⟩
    · exact .inr ⟨_, e, h.1.size⟩
theorem LayS.alloc {w wx : World} {v vx : Value} (h : LayS w wx v vx) (o : Obj) : LayS w (wx.alloc o) v vx :=
  ⟨⟨h.1.os, h.1.tape, h.1.output, by simp; have := h.1.size; omega, fun k hk hne => (heap_alloc_old _ _ (Nat.lt_of_lt_of_le hk h.1.size)).trans (h.1.block k hk hne)⟩, h.2⟩
theorem LayS.lays {w w' : World} {base : Nat} {v v' : Value} {l : List Nat} (h : LayS w w' v v') (hm : Mine w' base v' l) : Lays base v l w (.returned v') w' := ⟨v', rfl, hm, h.1, h.2⟩

set_option maxRecDepth 100000 in
theorem or8_128 : ∀ b : Nat, b < 256 → bits .or .u8 (b : Int) 128 = ((b % 128 + 128 : Nat) : Int) := by decide

theorem LayS.ext {w wx wy : World} {v vx : Value} (h : LayS w wx v vx) (hx : Ext wx wy) : LayS w wy v vx :=
  ⟨⟨hx.below.os.trans h.1.os, hx.below.tape.trans h.1.tape, hx.below.output.trans h.1.output, Nat.le_trans h.1.size hx.size, fun k hk hne => (hx.below.block k (Nat.lt_of_lt_of_le hk h.1.size)).trans (h.1.block k hk hne)⟩, h.2⟩

end Go.Proofs.Ytjifionpblpfoaa

/-
  The statements' own comparison of bytes tells lists that are unlike from those that are alike. Conditions: no more than 2^20 bytes.
-/
namespace Go.Proofs.Ytjifionpblpfoaa
open Go.RowKit
open Pol (co Sm)

set_option maxHeartbeats 400000 in
set_option maxRecDepth 100000 in
theorem same_no (l m : List Nat) (A B : Option Addr) (ca cb : Nat) (w : World) (ha : Rd w A l) (hb : Rd w B m) (hl : l.length ≤ 1048576) (h : l ≠ m) :
    Calls Try.prog 25 #[.slice A l.length ca, .slice B m.length cb] w (Hands (.bool false) w) := by
  by_cases hlm : l.length = m.length
  · rw [← hlm]
    have HNE := Lib.hid (fun (k : ∀ j, j < l.length → co l j = co m j) => h (Lin.list_ext hlm k))
    have HLM := Lib.hid hlm
    generalize hn : l.length = n at *
    have HA := Lib.hid ha
    have HB := Lib.hid hb
    have HN := Lib.hid hn
    clear ha hb hn h hlm
    go_enter Try.func25, Try.ntmps25
    go_wp2
    go_loopg [13] n (fun g s wx => ∃ k q : Nat, k + g = n ∧ s = .int .i64 (k : Int) ∧ wx = w.drewN q ∧ ∀ j, j < k → co l j = co m j)
    case atStart => exact ⟨0, 0, by omega, rfl, rfl, fun j hj => by omega⟩
    case round =>
      obtain ⟨k, q, hkg, rfl, rfl, hsame⟩ := hrel
      have HSA := Lib.hid hsame
      clear hsame
      cases gk with
      | zero =>
        obtain rfl : k = n := by omega
        exact absurd HSA.out HNE.out
      | succ g =>
        have hk : k < n := by omega
        obtain ⟨b, o, rfl, hc⟩ := HA.out.2 k (by rw [HN.out]; exact hk)
        obtain ⟨b', o', rfl, hc'⟩ := HB.out.2 k (by rw [← HLM.out]; exact hk)
        have hkI : (k : Int) < (n : Int) := by omega
        obtain ⟨x, hx⟩ : ∃ x, co l k = x := ⟨_, rfl⟩
        obtain ⟨y, hy⟩ : ∃ y, co m k = y := ⟨_, rfl⟩
        rw [hx] at hc
        rw [hy] at hc'
        by_cases e : x = y
        · have t : ((x : Int) != (y : Int)) = false := by subst e; simp
          have HE := Lib.hid (show co l k = co m k by rw [hx, hy]; exact e)
          clear e hx hy
          go_wp2
          go_quiet (fail)
          go_wp2
          go_roundg g
          case measure => omega
          case rel => exact ⟨k + 1, _, by omega, by go_num, rfl, fun j hj => by
            by_cases e : j = k
            · subst e; exact HE.out
            · exact HSA.out j (by omega)⟩
        · have t : ((x : Int) != (y : Int)) = true := by simp; omega
          clear e hx hy
          go_wp2
          go_quiet (fail)
          go_wp2
          go_ret
          exact ⟨rfl, q + nq, by rw [World.drewN_drewN]⟩
  · have t : ((l.length : Int) != (m.length : Int)) = true := by simp; omega
    generalize l.length = n at *
    generalize m.length = n' at *
    clear ha hb h
    go_enter Try.func25, Try.ntmps25
    go_wp2
    go_ret
    exact ⟨rfl, 0, rfl⟩
end Go.Proofs.Ytjifionpblpfoaa

/-
  What a reader of layer 8 is in memory (which the code decides), and how a reading ends. Conditions: none.
-/
namespace Go.Proofs.Ytjifionpblpfoaa
open Go.RowKit
open Pol (co Sm)

/-- The blocks from lo on, below hi. -/
def Btw (lo hi k : Nat) : Prop := lo ≤ k ∧ k < hi
/-- What a reader is in memory: between which blocks its own lie, where its bytes lie, where it is, and what is left; and how a reading ends with an error. -/
structure Rdr where
  RI : Nat → Nat → Option Addr → Addr → World → List Nat → Prop
  St : Nat → Nat → Option Addr → Addr → World → Nat → List PanicEntry → Prop
/-- A call of a reader's method. -/
def Reads {α : Type} (I : Rdr) (lo hi : Nat) (B : Option Addr) (ρ : Addr) (V : Value → World → α → Prop) (r : Rs α) (w : World) (e : Ending) (w' : World) : Prop :=
  Only (Btw lo hi) w w' ∧ match r with
    | .ok a rest => ∃ v, e = .returned v ∧ V v w' a ∧ I.RI lo hi B ρ w' rest
    | .er n => ∃ ch, e = .panicked ch ∧ I.St lo hi B ρ w' n ch
/-- Bytes of a call's own. -/
def OwnB (base : Nat) (v : Value) (w : World) (t : List Nat) : Prop := ∃ B c, v = .slice B t.length c ∧ t.length ≤ c ∧ Rd w B t ∧ ∀ b o, B = some ⟨b, o, none⟩ → 0 < t.length → base ≤ b
def dg (t : List Nat) : Value := .agg (bv t).toArray
/-- What the function that reads does: it comes to its end, or ends by an error of the reader's, or panics by itself with an integer. -/
inductive By where
  | done (l : List Nat)
  | fails (n : Nat)
  | dies (x : Int)
def ByE (I : Rdr) (lo hi : Nat) (B : Option Addr) (ρ : Addr) (J : Nat → World → By → Prop) (e : Ending) (w : World) : Prop :=
  (∃ l v, e = .returned v ∧ I.RI lo hi B ρ w l ∧ J hi w (.done l)) ∨ (∃ n ch, e = .panicked ch ∧ I.St lo hi B ρ w n ch ∧ J hi w (.fails n)) ∨
  (∃ x, e = .panicked [{ v := .iface 3 (.int .i64 x), recovered := false }] ∧ (∃ l, I.RI lo hi B ρ w l) ∧ J hi w (.dies x))
def endOf : By → Ending → Prop
  | .done l, e => e = .returned (.int .i64 (if l = [] then 0 else 3))
  | .fails n, e => e = .returned (.int .i64 (n : Int))
  | .dies x, e => ∃ older : List PanicEntry, e = .panicked ({ v := .iface 3 (.int .i64 x), recovered := false } :: older) ∧ ∀ p ∈ older, p.goexit = false
def ReadE (J : Nat → World → By → Prop) (w : World) (e : Ending) (w' : World) : Prop := ∃ hi w2 y, w.heap.size ≤ hi ∧ J hi w2 y ∧ Only (Btw w.heap.size hi) w2 w' ∧ endOf y e
theorem ByE.mono {I : Rdr} {lo hi : Nat} {B : Option Addr} {ρ : Addr} {J J' : Nat → World → By → Prop} {e : Ending} {w : World} (h : ByE I lo hi B ρ J e w) (hJ : ∀ w y, J hi w y → J' hi w y) : ByE I lo hi B ρ J' e w := by
  rcases h with ⟨l, v, h1, h2, h3⟩ | ⟨n, ch, h1, h2, h3⟩ | ⟨x, h1, h2, h3⟩
  · exact .inl ⟨l, v, h1, h2, hJ _ _ h3⟩
  · exact .inr (.inl ⟨n, ch, h1, h2, hJ _ _ h3⟩)
  · exact .inr (.inr ⟨x, h1, h2, hJ _ _ h3⟩)
theorem Rd.block' {w : World} {A : Option Addr} {l : List Nat} (h : Rd w A l) : ∀ b o, A = some ⟨b, o, none⟩ → 0 < l.length → b < w.heap.size := fun b o e hl => by
  obtain ⟨b', o', e', hc⟩ := h.2 0 hl
  rw [e] at e'
  injection e' with e'
  injection e' with e' _
  rw [e']
  exact block_lt_of_cell hc
/-- Where bytes lie, if there are any. -/
def nz (b : List Nat) (B : Option Addr) : Option Addr := if b = [] then none else B
theorem nz_some {b : List Nat} {B : Option Addr} {a : Addr} (h : nz b B = some a) : B = some a ∧ 0 < b.length := by
  unfold nz at h
  split at h
  · cases h
  · rename_i hb
    exact ⟨h, List.length_pos_iff.2 hb⟩
theorem mine_only {X : Nat → Prop} {w w' : World} {base : Nat} {v : Value} {l : List Nat} (h : Mine w base v l) (ho : Only X w w') (hx : ∀ k, v.ownBlock = some k → ¬ X k) : Mine w' base v l := by
  refine ⟨h.1, ?_⟩
  rcases h.2 with h0 | ⟨g, cap, cur, e, hb, hg, h3⟩
  · exact .inl h0
  · refine .inr ⟨g, cap, cur, e, hb, ?_, h3⟩
    rw [ho.block g (World.ownsRow.lt h g (by rw [e]; rfl)).2 (hx g (by rw [e]; rfl))]
    exact hg
/-- A function with a body, as Go code has it. -/
def HasBody (fn : FuncId) : Prop := ∃ F c, Try.prog.funcs[fn]? = some F ∧ F.body = some c ∧ (F.name == "runtime.NumGoroutine") = false

theorem grown_set' (w : World) (g o : Nat) (v : Value) : w.grownBy (w.setCell ⟨g, o, none⟩ v) (some g) :=
  ⟨rfl, rfl, rfl, by simp [World.setCell], fun k _ hk => Below.heap_setCell _ _ _ k (fun e => hk (by rw [e]))⟩

end Go.Proofs.Ytjifionpblpfoaa

/-
  What the document's own reader of layer 8 does. Conditions: no more than 2^16 bytes.
-/
namespace Go.Proofs.Ytjifionpblpfoaa
open Go.RowKit
open Pol (co Sm)

/-- A reader of the document's in block g: its bytes, where it is, its error. -/
structure RR (w : World) (g : Nat) (B : Option Addr) (n cb a e : Nat) : Prop where
  c0 : w.cell? ⟨g, 0, none⟩ = some (.slice B n cb)
  c1 : w.cell? ⟨g, 1, none⟩ = some (.int .i64 (a : Int))
  c2 : w.cell? ⟨g, 2, none⟩ = some (.int .i64 (e : Int))
  z1 : w.frozen? ⟨g, 1, none⟩ = false
  z2 : w.frozen? ⟨g, 2, none⟩ = false
theorem off_ne8 (g : Nat) {a b : Nat} (h : a ≠ b) : (⟨g, a, none⟩ : Addr) ≠ ⟨g, b, none⟩ := fun e => h (by injection e)
theorem RR.drewN {w : World} {g : Nat} {B : Option Addr} {n cb a e : Nat} (h : RR w g B n cb a e) (q : Nat) : RR (w.drewN q) g B n cb a e := ⟨h.c0, h.c1, h.c2, h.z1, h.z2⟩
theorem RR.set1 {w : World} {g : Nat} {B : Option Addr} {n cb a e : Nat} (h : RR w g B n cb a e) (a' : Nat) : RR (w.setCell ⟨g, 1, none⟩ (.int .i64 (a' : Int))) g B n cb a' e :=
  ⟨(World.cell?_setCell_other _ _ _ _ (off_ne8 g (by omega))).trans h.c0, World.cell?_setCell_same' _ _ _ (by rw [h.c1]; rfl), (World.cell?_setCell_other _ _ _ _ (off_ne8 g (by omega))).trans h.c2, by rw [World.frozen?_setCell]; exact h.z1, by rw [World.frozen?_setCell]; exact h.z2⟩
theorem RR.set2 {w : World} {g : Nat} {B : Option Addr} {n cb a e : Nat} (h : RR w g B n cb a e) (e' : Nat) : RR (w.setCell ⟨g, 2, none⟩ (.int .i64 (e' : Int))) g B n cb a e' :=
  ⟨(World.cell?_setCell_other _ _ _ _ (off_ne8 g (by omega))).trans h.c0, (World.cell?_setCell_other _ _ _ _ (off_ne8 g (by omega))).trans h.c1, World.cell?_setCell_same' _ _ _ (by rw [h.c2]; rfl), by rw [World.frozen?_setCell]; exact h.z1, by rw [World.frozen?_setCell]; exact h.z2⟩
theorem RR.ext {w w' : World} {g : Nat} {B : Option Addr} {n cb a e : Nat} (h : RR w g B n cb a e) (hx : Ext w w') : RR w' g B n cb a e :=
  ⟨(hx.below.cell (p := ⟨g, 0, none⟩) (block_lt_of_cell h.c0)).trans h.c0, (hx.below.cell (p := ⟨g, 1, none⟩) (block_lt_of_cell h.c1)).trans h.c1, (hx.below.cell (p := ⟨g, 2, none⟩) (block_lt_of_cell h.c2)).trans h.c2, (hx.below.frozen (p := ⟨g, 1, none⟩) (block_lt_of_cell h.c1)).trans h.z1, (hx.below.frozen (p := ⟨g, 2, none⟩) (block_lt_of_cell h.c2)).trans h.z2⟩
theorem RR.only {X : Nat → Prop} {w w' : World} {g : Nat} {B : Option Addr} {n cb a e : Nat} (h : RR w g B n cb a e) (ho : Only X w w') (hx : ¬ X g) : RR w' g B n cb a e :=
  ⟨ho.cell h.c0 hx, ho.cell h.c1 hx, ho.cell h.c2 hx, (ho.frozen (o := 1) (block_lt_of_cell h.c1) hx).trans h.z1, (ho.frozen (o := 2) (block_lt_of_cell h.c2) hx).trans h.z2⟩
theorem rd_keep {w w' : World} {A : Option Addr} {l : List Nat} {g : Nat} (h : Rd w A l) (ho : Only (fun k => k = g) w w') (hne : ∀ b o, A = some ⟨b, o, none⟩ → 0 < l.length → b ≠ g) : Rd w' A l :=
  ⟨h.1, fun i hi => by
    obtain ⟨b, o, e, hc⟩ := h.2 i hi
    exact ⟨b, o, e, ho.cell hc (hne b o e (by omega))⟩⟩
/-- What a method of the document's reader leaves, of bytes l of which rest is left. -/
def RefE {α : Type} (l : List Nat) (g : Nat) (B : Option Addr) (cb : Nat) (V : Value → World → Option α → Prop) (r : Rs α) (w : World) (e : Ending) (w' : World) : Prop :=
  Only (fun k => k = g) w w' ∧ match r with
    | .ok a rest => ∃ v, e = .returned v ∧ V v w' (some a) ∧ RR w' g B l.length cb (l.length - rest.length) 0
    | .er n => ∃ v at', e = .returned v ∧ V v w' none ∧ RR w' g B l.length cb at' n

set_option maxHeartbeats 3200000 in
set_option maxRecDepth 100000 in
theorem ref8r_number (l rest : List Nat) (g : Nat) (B : Option Addr) (cb most : Nat) (w : World) (hr : Rd w B l) (hfar : ∀ b o, B = some ⟨b, o, none⟩ → 0 < l.length → b ≠ g) (hl : l.length ≤ 65536) (hd : ∃ pre, l = pre ++ rest) (hR : RR w g B l.length cb (l.length - rest.length) 0) (_hm : most < 18446744073709551616) :
    Calls Try.prog 38 #[.pointer (some ⟨g, 0, none⟩), .int .u64 (most : Int)] w (RefE l g B cb (fun v _ n => v = .int .u64 ((n.getD 0 : Nat) : Int)) (rdN most rest) w) := by
  have HR := Lib.hid hr
  have HFAR := Lib.hid hfar
  have HD := Lib.hid hd
  have HRR := Lib.hid hR
  obtain ⟨res, hres⟩ : ∃ res, rdN most rest = res := ⟨_, rfl⟩
  have HRES := Lib.hid hres
  rw [hres]
  clear hr hfar hd hR hres
  generalize hn : l.length = n at *
  have HN := Lib.hid hn
  clear hn
  go_enter Try.func38, Try.ntmps38
  go_wp2
  go_loopg [5, 6, 7] rest.length (fun gh s5 s6 s7 wx => ∃ (i acc sc : Nat) (rs pre : List Nat), rs.length = gh ∧ l = pre ++ rs ∧ i ≤ 9 ∧ s7 = .int .i64 (i : Int) ∧ s5 = .int .u64 (acc : Int) ∧ s6 = .int .u64 (sc : Int) ∧ sc = 128 ^ i ∧ acc < 128 ^ i ∧ rv most i acc rs = res ∧ RR wx g B n cb pre.length 0 ∧ Only (fun k => k = g) w wx)
  case atStart =>
    obtain ⟨pre, hp⟩ := HD.out
    have hpl : n - rest.length = pre.length := by rw [← HN.out, hp, List.length_append]; omega
    exact ⟨0, 0, 1, rest, pre, rfl, hp, by omega, rfl, rfl, rfl, rfl, by omega, HRES.out, by rw [← hpl]; exact HRR.out, Only.refl _ _⟩
  case round =>
    obtain ⟨i, acc, sc, rs, pre, hgh, hlp, hi9, rfl, rfl, rfl, hsc, hacc, hrv, hrr, ho⟩ := hrel
    have HR1 := Lib.hid hrr
    have HO := Lib.hid ho
    have z0 := hrr.c0
    have z1 := hrr.c1
    have z2 := hrr.c2
    have y1 := hrr.z1
    have y2 := hrr.z2
    obtain ⟨pa, hpa⟩ : ∃ pa, pre.length = pa := ⟨_, rfl⟩
    have hpn : pa + rs.length = n := by rw [← HN.out, hlp, List.length_append, hpa]
    have HLP := Lib.hid hlp
    rw [hpa] at z1 HR1
    clear ho hrr hlp
    cases rs with
    | nil =>
      obtain rfl : gk = 0 := by simpa using hgh.symm
      have hpn' : n ≤ pa := by simp at hpn; omega
      have d1 : decide (n ≤ pa) = true := decide_eq_true hpn'
      have hrs : res = .er 2 := by rw [← hrv, rv]
      subst hrs
      clear hrv hgh
      go_wp2
      go_quiet (fail)
      go_wp2
      go_ret
      exact ⟨(HO.out.drewN nq).trans (Only.of_grown (grown_set' _ _ _ _) (fun k e => by cases e; rfl)), _, _, rfl, rfl, HN.out ▸ (HR1.out.drewN nq).set2 2⟩
    | cons b rs =>
      cases gk with
      | zero => simp at hgh
      | succ gh =>
      obtain rfl : rs.length = gh := by simpa using hgh
      have hpn' : pa < n := by simp at hpn; omega
      have hpnI : (pa : Int) < (n : Int) := by omega
      have d1 : decide (n ≤ pa) = false := decide_eq_false (by omega)
      obtain ⟨pa1, hpa1⟩ : ∃ pa1, pa + 1 = pa1 := ⟨_, rfl⟩
      have ep : IntKind.i64.wrap ((pa : Int) + 1) = (pa1 : Int) := by rw [IntWalk.i64_in _ (by omega)]; omega
      have hcb : co l pa = b := by rw [HLP.out, ← hpa]; unfold co; rw [List.getElem?_append_right (Nat.le_refl _), Nat.sub_self]; rfl
      obtain ⟨b1, o1, e1, hc1⟩ := (rd_keep HR.out HO.out (by rw [HN.out]; exact HFAR.out)).2 pa (by rw [HN.out]; exact hpn')
      subst e1
      have hbb := HR.out.1 pa
      rw [hcb] at hc1 hbb
      have hne : b1 ≠ g := HFAR.out b1 o1 rfl (by omega)
      have HPB := Lib.hid (show (pre ++ [b]).length = pa1 by rw [List.length_append, hpa]; exact hpa1)
      have hpn1 : pa1 + rs.length = n := by simp at hpn; omega
      clear hcb hpa hpn hgh
      have HR2' := Lib.hid (fun q => (HR1.out.drewN q).set1 pa1)
      have HO2' := Lib.hid (fun q => (HO.out.drewN q).trans (Only.of_grown (grown_set' (wr.drewN q) g 1 (.int .i64 (pa1 : Int))) (fun k e => by cases e; rfl)))
      obtain ⟨y, hy⟩ : ∃ y, b % 128 = y := ⟨_, rfl⟩
      have e2 : (b : Int) % 128 = (y : Int) := by omega
      have e2' : (b : Int).tmod 128 = (y : Int) := by rw [Int.tmod_eq_emod_of_nonneg (by omega)]; exact e2
      have e3 : IntKind.u8.wrap (y : Int) = (y : Int) := IntWalk.u8_in _ (by omega)
      have e4 : IntKind.u64.wrap (y : Int) = (y : Int) := by rw [IntKind.wrap_u64]; omega
      rw [rv] at hrv
      have hval : acc + b % 128 * 128 ^ i = acc + y * sc := by rw [hy, hsc]
      rw [hval] at hrv
      clear hy
      go_wp2
      go_quiet (fail)
      revert nq
      intro q1
      go_wp2
      go_quiet (fail)
      have HR2 := Lib.hid ((HR1.out.drewN (q1 + nq)).set1 pa1)
      have HO2 := Lib.hid ((HO.out.drewN (q1 + nq)).trans (Only.of_grown (grown_set' (wr.drewN (q1 + nq)) g 1 (.int .i64 (pa1 : Int))) (fun k e => by cases e; rfl)))
      have c2' := HR2.out.c2
      have y2' := HR2.out.z2
      by_cases h9 : i = 9
      · have t9 : ((i : Int) == 9) = true := by rw [h9]; rfl
        by_cases hb1 : 1 < b
        · have d2 : decide (1 < (b : Int)) = true := decide_eq_true (by omega)
          rw [if_pos (.inl ⟨h9, hb1⟩)] at hrv
          subst hrv
          clear hval hsc hacc h9
          go_wp2
          go_ret
          exact ⟨HO2.out.trans (Only.of_grown (grown_set' _ g 2 (.int .i64 14)) (fun k e => by cases e; rfl)), _, _, rfl, rfl, HN.out ▸ HR2.out.set2 14⟩
        · have d2 : decide (1 < (b : Int)) = false := decide_eq_false (by omega)
          have d3 : decide (0 < (i : Int)) = true := decide_eq_true (by omega)
          have d3n : decide (0 < i) = true := decide_eq_true (by omega)
          by_cases hb0 : b = 0
          · have d4 : ((b : Int) == 0) = true := by rw [hb0]; rfl
            have d4n : decide (b = 0) = true := decide_eq_true hb0
            have d4m : (b == 0) = true := by rw [hb0]; rfl
            rw [if_pos (.inr ⟨by omega, hb0⟩)] at hrv
            subst hrv
            clear hval hsc hacc h9 hb0
            go_wp2
            go_ret
            exact ⟨HO2.out.trans (Only.of_grown (grown_set' _ g 2 (.int .i64 14)) (fun k e => by cases e; rfl)), _, _, rfl, rfl, HN.out ▸ HR2.out.set2 14⟩
          · have d4 : ((b : Int) == 0) = false := beq_eq_false_iff_ne.2 (by omega)
            have d4n : decide (b = 0) = false := decide_eq_false hb0
            have d4m : (b == 0) = false := beq_eq_false_iff_ne.2 hb0
            rw [if_neg (by omega)] at hrv
            have hbound : acc + y * sc < 18446744073709551616 := by
              have hy1 : y = 1 := by omega
              rw [hy1, hsc, h9]
              rw [h9] at hacc
              have h128 : (128 : Nat) ^ 9 = 9223372036854775808 := by decide
              omega
            have HSC := Lib.hid hsc
            have HAC := Lib.hid hacc
            clear hsc hacc h9
            obtain ⟨nv, hnv⟩ : ∃ nv, acc + y * sc = nv := ⟨_, rfl⟩
            have hnvb : nv < 18446744073709551616 := by rw [← hnv]; exact hbound
            rw [hnv] at hrv
            have e5 : IntKind.u64.wrap ((y : Int) * (sc : Int)) = ((y * sc : Nat) : Int) := by rw [← Int.natCast_mul, IntKind.wrap_u64]; omega
            obtain ⟨ys, hys⟩ : ∃ ys, y * sc = ys := ⟨_, rfl⟩
            rw [hys] at e5 hnv
            have e6 : IntKind.u64.wrap ((acc : Int) + (ys : Int)) = (nv : Int) := by rw [IntKind.wrap_u64]; omega
            by_cases h128 : b < 128
            · have d7 : decide ((b : Int) < 128) = true := decide_eq_true (by omega)
              rw [if_pos h128] at hrv
              by_cases hmo : most < nv
              · have d8 : decide (most < nv) = true := decide_eq_true hmo
                have d8' : decide ((most : Int) < (nv : Int)) = true := decide_eq_true (by omega)
                have hrs : res = .er 10 := by rw [← hrv, if_pos hmo]
                subst hrs
                clear hrv hval hnv hys hbound
                go_wp2
                go_ret
                exact ⟨HO2.out.trans (Only.of_grown (grown_set' _ g 2 (.int .i64 10)) (fun k e => by cases e; rfl)), _, _, rfl, rfl, HN.out ▸ HR2.out.set2 10⟩
              · have d8 : decide (most < nv) = false := decide_eq_false hmo
                have d8' : decide ((most : Int) < (nv : Int)) = false := decide_eq_false (by omega)
                have hrs : res = .ok nv rs := by rw [← hrv, if_neg hmo]
                subst hrs
                have HAT := Lib.hid (show n - rs.length = pa1 by omega)
                clear hrv hval hnv hys hbound
                go_wp2
                go_ret
                exact ⟨HO2.out, _, rfl, rfl, by rw [HN.out, HAT.out]; exact HR2.out⟩
            · have d7 : decide ((b : Int) < 128) = false := decide_eq_false (by omega)
              rw [if_neg h128] at hrv
              omega
      · have t9 : ((i : Int) == 9) = false := beq_eq_false_iff_ne.2 (by omega)
        have hscl : 128 * sc ≤ 9223372036854775808 := by
          have h1 : 128 * sc = 128 ^ (i + 1) := by rw [hsc, Nat.pow_succ, Nat.mul_comm]
          have h2 : (128 : Nat) ^ (i + 1) ≤ 128 ^ 9 := Nat.pow_le_pow_right (by omega) (by omega)
          have h3 : (128 : Nat) ^ 9 = 9223372036854775808 := by decide
          omega
        have hbound : acc + y * sc < 18446744073709551616 := by
          have h1 : y * sc ≤ 127 * sc := Nat.mul_le_mul_right sc (by omega)
          have h2 : acc < sc := by rw [hsc]; exact hacc
          omega
        by_cases hi0 : i = 0
        · have d3 : decide (0 < (i : Int)) = false := decide_eq_false (by omega)
          have d3n : decide (0 < i) = false := decide_eq_false (by omega)
          rw [if_neg (by omega)] at hrv
          have HSC := Lib.hid hsc
          have HAC := Lib.hid hacc
          clear hsc hacc hi0
          obtain ⟨nv, hnv⟩ : ∃ nv, acc + y * sc = nv := ⟨_, rfl⟩
          have hnvb : nv < 18446744073709551616 := by rw [← hnv]; exact hbound
          rw [hnv] at hrv
          have e5 : IntKind.u64.wrap ((y : Int) * (sc : Int)) = ((y * sc : Nat) : Int) := by rw [← Int.natCast_mul, IntKind.wrap_u64]; omega
          obtain ⟨ys, hys⟩ : ∃ ys, y * sc = ys := ⟨_, rfl⟩
          rw [hys] at e5 hnv
          have e6 : IntKind.u64.wrap ((acc : Int) + (ys : Int)) = (nv : Int) := by rw [IntKind.wrap_u64]; omega
          by_cases h128 : b < 128
          · have d7 : decide ((b : Int) < 128) = true := decide_eq_true (by omega)
            rw [if_pos h128] at hrv
            by_cases hmo : most < nv
            · have d8 : decide (most < nv) = true := decide_eq_true hmo
              have d8' : decide ((most : Int) < (nv : Int)) = true := decide_eq_true (by omega)
              have hrs : res = .er 10 := by rw [← hrv, if_pos hmo]
              subst hrs
              clear hrv hval hnv hys hbound
              go_wp2
              go_ret
              exact ⟨HO2.out.trans (Only.of_grown (grown_set' _ g 2 (.int .i64 10)) (fun k e => by cases e; rfl)), _, _, rfl, rfl, HN.out ▸ HR2.out.set2 10⟩
            · have d8 : decide (most < nv) = false := decide_eq_false hmo
              have d8' : decide ((most : Int) < (nv : Int)) = false := decide_eq_false (by omega)
              have hrs : res = .ok nv rs := by rw [← hrv, if_neg hmo]
              subst hrs
              have HAT := Lib.hid (show n - rs.length = pa1 by omega)
              clear hrv hval hnv hys hbound
              go_wp2
              go_ret
              exact ⟨HO2.out, _, rfl, rfl, by rw [HN.out, HAT.out]; exact HR2.out⟩
          · have d7 : decide ((b : Int) < 128) = false := decide_eq_false (by omega)
            rw [if_neg h128] at hrv
            have HRV := Lib.hid hrv
            obtain ⟨sc2, hsc2⟩ : ∃ sc2, sc * 128 = sc2 := ⟨_, rfl⟩
            have hsc3 : sc2 = 128 ^ (i + 1) := by rw [← hsc2, HSC.out, Nat.pow_succ]
            have hscb : sc2 < 18446744073709551616 := by rw [hsc3]; exact Nat.lt_of_le_of_lt (Nat.pow_le_pow_right (n := 128) (by omega) (show i + 1 ≤ 9 by omega)) (by decide)
            have e9 : IntKind.u64.wrap ((sc : Int) * 128) = (sc2 : Int) := by rw [IntKind.wrap_u64]; omega
            have hnv3 : nv < 128 ^ (i + 1) := by rw [← hsc3, ← hsc2, ← hnv, ← hys]; have : y * sc ≤ 127 * sc := Nat.mul_le_mul_right sc (by omega); have hacc := HAC.out; rw [← HSC.out] at hacc; omega
            have HHH := Lib.hid (show sc2 = 128 ^ (i + 1) ∧ nv < 128 ^ (i + 1) from ⟨hsc3, hnv3⟩)
            clear hrv hval hnv hys hbound hsc2 hsc3 hnv3
            go_wp2
            go_roundg rs.length
            case measure => omega
            case rel => exact ⟨i + 1, nv, sc2, rs, pre ++ [b], rfl, by rw [HLP.out, List.append_assoc]; rfl, by omega, by go_num, rfl, rfl, HHH.out.1, HHH.out.2, HRV.out, by rw [HPB.out]; exact HR2.out, HO2.out⟩
        · have d3 : decide (0 < (i : Int)) = true := decide_eq_true (by omega)
          have d3n : decide (0 < i) = true := decide_eq_true (by omega)
          by_cases hb0 : b = 0
          · have d4 : ((b : Int) == 0) = true := by rw [hb0]; rfl
            have d4n : decide (b = 0) = true := decide_eq_true hb0
            have d4m : (b == 0) = true := by rw [hb0]; rfl
            rw [if_pos (.inr ⟨by omega, hb0⟩)] at hrv
            subst hrv
            clear hval hsc hacc hb0 hbound hscl
            go_wp2
            go_ret
            exact ⟨HO2.out.trans (Only.of_grown (grown_set' _ g 2 (.int .i64 14)) (fun k e => by cases e; rfl)), _, _, rfl, rfl, HN.out ▸ HR2.out.set2 14⟩
          · have d4 : ((b : Int) == 0) = false := beq_eq_false_iff_ne.2 (by omega)
            have d4n : decide (b = 0) = false := decide_eq_false hb0
            have d4m : (b == 0) = false := beq_eq_false_iff_ne.2 hb0
            rw [if_neg (by omega)] at hrv
            have HSC := Lib.hid hsc
            have HAC := Lib.hid hacc
            clear hsc hacc
            obtain ⟨nv, hnv⟩ : ∃ nv, acc + y * sc = nv := ⟨_, rfl⟩
            have hnvb : nv < 18446744073709551616 := by rw [← hnv]; exact hbound
            rw [hnv] at hrv
            have e5 : IntKind.u64.wrap ((y : Int) * (sc : Int)) = ((y * sc : Nat) : Int) := by rw [← Int.natCast_mul, IntKind.wrap_u64]; omega
            obtain ⟨ys, hys⟩ : ∃ ys, y * sc = ys := ⟨_, rfl⟩
            rw [hys] at e5 hnv
            have e6 : IntKind.u64.wrap ((acc : Int) + (ys : Int)) = (nv : Int) := by rw [IntKind.wrap_u64]; omega
            by_cases h128 : b < 128
            · have d7 : decide ((b : Int) < 128) = true := decide_eq_true (by omega)
              rw [if_pos h128] at hrv
              by_cases hmo : most < nv
              · have d8 : decide (most < nv) = true := decide_eq_true hmo
                have d8' : decide ((most : Int) < (nv : Int)) = true := decide_eq_true (by omega)
                have hrs : res = .er 10 := by rw [← hrv, if_pos hmo]
                subst hrs
                clear hrv hval hnv hys hbound
                go_wp2
                go_ret
                exact ⟨HO2.out.trans (Only.of_grown (grown_set' _ g 2 (.int .i64 10)) (fun k e => by cases e; rfl)), _, _, rfl, rfl, HN.out ▸ HR2.out.set2 10⟩
              · have d8 : decide (most < nv) = false := decide_eq_false hmo
                have d8' : decide ((most : Int) < (nv : Int)) = false := decide_eq_false (by omega)
                have hrs : res = .ok nv rs := by rw [← hrv, if_neg hmo]
                subst hrs
                have HAT := Lib.hid (show n - rs.length = pa1 by omega)
                clear hrv hval hnv hys hbound
                go_wp2
                go_ret
                exact ⟨HO2.out, _, rfl, rfl, by rw [HN.out, HAT.out]; exact HR2.out⟩
            · have d7 : decide ((b : Int) < 128) = false := decide_eq_false (by omega)
              rw [if_neg h128] at hrv
              have HRV := Lib.hid hrv
              obtain ⟨sc2, hsc2⟩ : ∃ sc2, sc * 128 = sc2 := ⟨_, rfl⟩
              have hsc3 : sc2 = 128 ^ (i + 1) := by rw [← hsc2, HSC.out, Nat.pow_succ]
              have hscb : sc2 < 18446744073709551616 := by rw [hsc3]; exact Nat.lt_of_le_of_lt (Nat.pow_le_pow_right (n := 128) (by omega) (show i + 1 ≤ 9 by omega)) (by decide)
              have e9 : IntKind.u64.wrap ((sc : Int) * 128) = (sc2 : Int) := by rw [IntKind.wrap_u64]; omega
              have hnv3 : nv < 128 ^ (i + 1) := by rw [← hsc3, ← hsc2, ← hnv, ← hys]; have : y * sc ≤ 127 * sc := Nat.mul_le_mul_right sc (by omega); have hacc := HAC.out; rw [← HSC.out] at hacc; omega
              have HHH := Lib.hid (show sc2 = 128 ^ (i + 1) ∧ nv < 128 ^ (i + 1) from ⟨hsc3, hnv3⟩)
              clear hrv hval hnv hys hbound hsc2 hsc3 hnv3
              go_wp2
              go_roundg rs.length
              case measure => omega
              case rel => exact ⟨i + 1, nv, sc2, rs, pre ++ [b], rfl, by rw [HLP.out, List.append_assoc]; rfl, by omega, by go_num, rfl, rfl, HHH.out.1, HHH.out.2, HRV.out, by rw [HPB.out]; exact HR2.out, HO2.out⟩
end Go.Proofs.Ytjifionpblpfoaa

/-
  What the document's own reader of layer 8 does beside numbers: bytes, texts, its end. Conditions: no more than 2^16 bytes.
-/
namespace Go.Proofs.Ytjifionpblpfoaa
open Go.RowKit
open Pol (co Sm)

/-- Bytes that were handed back, or none. -/
def OptB (base : Nat) (v : Value) (w : World) (o : Option (List Nat)) : Prop := OwnB base v w (o.getD [])
theorem mine_own {w : World} {base : Nat} {v : Value} {l : List Nat} (h : Mine w base v l) (hs : Sm l) : OwnB base v w l := by
  obtain ⟨B, c, rfl, hc, hr⟩ := h.slice hs
  refine ⟨B, c, rfl, hc, hr, fun b o e hl => ?_⟩
  subst e
  rcases h.2 with ⟨e, hn⟩ | ⟨g, cap, cur, e, hb, _⟩
  · omega
  · injection e with e
    injection e with e
    injection e with e _
    rw [e]
    exact hb

set_option maxHeartbeats 3200000 in
set_option maxRecDepth 100000 in
theorem ref8r_bytes (l rest : List Nat) (g : Nat) (B : Option Addr) (cb m : Nat) (w : World) (hr : Rd w B l) (hcb : l.length ≤ cb) (hl : l.length ≤ 65536) (hd : ∃ pre, l = pre ++ rest) (hR : RR w g B l.length cb (l.length - rest.length) 0) (hm : m ≤ 1048576) :
    Calls Try.prog 48 #[.pointer (some ⟨g, 0, none⟩), .int .i64 (m : Int)] w (RefE l g B cb (OptB w.heap.size) (rdB m rest) w) := by
  obtain ⟨pre, hp⟩ := hd
  have hrl : pre.length + rest.length = l.length := by rw [hp, List.length_append]
  obtain ⟨pa, hpa⟩ : ∃ pa, pre.length = pa := ⟨_, rfl⟩
  rw [show l.length - rest.length = pa from by omega] at hR
  obtain ⟨rl, hrl2⟩ : ∃ rl, rest.length = rl := ⟨_, rfl⟩
  rw [hpa, hrl2] at hrl
  have HR := Lib.hid hr
  have HRR := Lib.hid hR
  have z0 := hR.c0
  have z1 := hR.c1
  have z2 := hR.c2
  have y1 := hR.z1
  have y2 := hR.z2
  have hgl := block_lt_of_cell hR.c0
  have HCUT := Lib.hid (fun k (hk : k ≤ rl) => show tab k (fun j => co l (pa + j)) = rest.take k from Lin.list_ext (by rw [tab_len, List.length_take]; omega) fun i hi => by
    rw [tab_len] at hi
    rw [co_tab, if_pos hi, hp, ← hpa]
    unfold co
    rw [List.getElem?_append_right (by omega), List.getElem?_take, if_pos hi]
    congr 2
    omega)
  have HSR := Lib.hid (show ∀ k, Sm (rest.take k) from fun k => Pol.co_lt_of fun z hz => hr.1.mem z (by rw [hp]; exact List.mem_append.2 (.inr (List.mem_of_mem_take hz))))
  have HRD := Lib.hid (show rdB m rest = if rl < m then .er 2 else .ok (rest.take m) (rest.drop m) from by unfold rdB; rw [hrl2])
  have HDL := Lib.hid (show (rest.drop m).length = rl - m by rw [List.length_drop, hrl2])
  have HTL := Lib.hid (fun k (hk : k ≤ rl) => show (rest.take k).length = k by rw [List.length_take, hrl2]; omega)
  rw [HRD.out]
  clear hr hR hp hpa hrl2
  generalize hn : l.length = n at *
  have HN := Lib.hid hn
  clear hn
  obtain ⟨df, hdf⟩ : ∃ df, n - pa = df := ⟨_, rfl⟩
  have e1 : IntKind.i64.wrap ((n : Int) - (pa : Int)) = (df : Int) := by rw [IntWalk.i64_in _ (by omega)]; omega
  by_cases hlt : rl < m
  · rw [if_pos hlt]
    have d1 : decide (df < m) = true := decide_eq_true (by omega)
    clear hdf HRD
    go_enter Try.func48, Try.ntmps48
    go_wp2
    go_quiet (fail)
    go_wp2
    go_ret
    exact ⟨((Only.refl _ w).drewN nq).trans (Only.of_grown (grown_set' _ g 2 (.int .i64 2)) (fun k e => by cases e; rfl)), _, _, rfl, ⟨none, 0, rfl, Nat.le_refl _, Rd.nil _ _, fun _ _ _ h => absurd h (by simp)⟩, HN.out ▸ (HRR.out.drewN nq).set2 2⟩
  · rw [if_neg hlt]
    have d1 : decide (df < m) = false := decide_eq_false (by omega)
    obtain ⟨p2, hp2⟩ : ∃ p2, pa + m = p2 := ⟨_, rfl⟩
    have e2 : IntKind.i64.wrap ((pa : Int) + (m : Int)) = (p2 : Int) := by rw [IntWalk.i64_in _ (by omega)]; omega
    obtain ⟨X, hX, hXr⟩ := run_cut_u8 B n cb pa p2 (by omega) (by omega)
    rw [show p2 - pa = m from by omega] at hX hXr
    obtain ⟨cx, hcx⟩ : ∃ cx, cb - pa = cx := ⟨_, rfl⟩
    rw [hcx] at hX
    have HXR := Lib.hid (fun W (hW : Ext w W) => show Rd W X (rest.take m) from by
      have h := hXr W l (HR.out.ext hW) (by rw [HN.out]; omega)
      rwa [HCUT.out m (by omega)] at h)
    have hp2n : p2 ≤ n := by omega
    have hpa2 : pa ≤ p2 := by omega
    have hp2c : p2 ≤ cb := by omega
    have HAT := Lib.hid (show n - (rl - m) = p2 by omega)
    have HT1 := Lib.hid (HTL.out m (by omega))
    have HS1 := Lib.hid (HSR.out m)
    clear hdf hXr hcx hp2 HRD HCUT
    generalize rest.take m = E at *
    go_enter Try.func48, Try.ntmps48
    go_wp2
    go_quiet (fail)
    revert nq
    intro q1
    go_wp2
    refine wp_region_stab (Two ⟨g, 0, none⟩ (.slice B n cb) ⟨g, 1, none⟩ (.int .i64 (pa : Int))) [0, 1, 2, 3, 4, 5, 6, 7, 8, 9, 10, 11, 12, 13, 14, 15] [(1, true), (2, true), (3, true), (4, true), (5, true), (6, true), (7, true), (8, true), (9, true), (10, true), (11, true), (12, true), (13, true), (14, true), (15, true), (0, false), (16, false), (17, false)] (by kernel_rfl) (fun c a a' w e h => ⟨e ▸ h.1, h.2⟩) (by kernel_rfl) ⟨z0, z1⟩ ?_
    refine stab_yes rfl (fun K hK => ?_)
    go_simp
    refine ⟨_, fun _ _ => rfl, hK _ ?_⟩
    clear hK K
    refine stab_yes rfl (fun K hK => ?_)
    go_simp
    refine ⟨_, fun _ _ => rfl, hK _ ?_⟩
    clear hK K
    refine stab_yes rfl (fun K hK => ?_)
    go_simp
    refine ⟨_, fun _ _ => rfl, hK _ ?_⟩
    clear hK K
    refine stab_yes rfl (fun K hK => ?_)
    go_simp
    refine ⟨(.slice B n cb), fun W hW => ?_, hK _ ?_⟩
    focus (have h1 := hW.1; go_simp; done)
    clear hK K
    refine stab_yes rfl (fun K hK => ?_)
    go_simp
    refine ⟨_, fun _ _ => rfl, hK _ ?_⟩
    clear hK K
    refine stab_yes rfl (fun K hK => ?_)
    go_simp
    refine ⟨_, fun _ _ => rfl, hK _ ?_⟩
    clear hK K
    refine stab_yes rfl (fun K hK => ?_)
    go_simp
    refine ⟨_, fun _ _ => rfl, hK _ ?_⟩
    clear hK K
    refine stab_yes rfl (fun K hK => ?_)
    go_simp
    refine ⟨(.int .i64 (pa : Int)), fun W hW => ?_, hK _ ?_⟩
    focus (have h1 := hW.2; go_simp; done)
    clear hK K
    refine stab_yes rfl (fun K hK => ?_)
    go_simp
    refine ⟨_, fun _ _ => rfl, hK _ ?_⟩
    clear hK K
    refine stab_yes rfl (fun K hK => ?_)
    go_simp
    refine ⟨_, fun _ _ => rfl, hK _ ?_⟩
    clear hK K
    refine stab_yes rfl (fun K hK => ?_)
    go_simp
    refine ⟨_, fun _ _ => rfl, hK _ ?_⟩
    clear hK K
    refine stab_yes rfl (fun K hK => ?_)
    go_simp
    refine ⟨(.int .i64 (pa : Int)), fun W hW => ?_, hK _ ?_⟩
    focus (have h1 := hW.2; go_simp; done)
    clear hK K
    refine stab_yes rfl (fun K hK => ?_)
    go_simp
    refine ⟨_, fun _ _ => rfl, hK _ ?_⟩
    clear hK K
    refine stab_yes rfl (fun K hK => ?_)
    go_simp
    refine ⟨_, fun _ _ => rfl, hK _ ?_⟩
    clear hK K
    refine stab_yes rfl (fun K hK => ?_)
    go_simp
    refine ⟨_, fun _ _ => rfl, hK _ ?_⟩
    clear hK K
    refine stab_one rfl (fun K hK => ?_)
    go_wp2
    have HRR1 := Lib.hid ((HRR.out.drewN (q1 + 1)).ext ((Ext.refl (w.drewN (q1 + 1))).alloc (.cells #[] 5)))
    have HXD := Lib.hid ((Ext.refl w).drewN (q1 + 1))
    have hsd : (w.drewN (q1 + 1)).heap.size = w.heap.size := rfl
    refine ⟨fun _ => ⟨HRR1.out.c0, HRR1.out.c1⟩, ?_⟩
    clear HRR1 z0 z1 z2 y1 y2
    refine stab_one rfl (fun K hK => ?_)
    go_wp2_with (at_builtin; refine wpList_append_rd rfl (.tmp 26) (.tmp 41) rfl w.heap.size _ [] E rfl (mine_empty (w.drewN (q1 + 1))) X m cx rfl HT1.out (HXR.out _ (HXD.out.alloc _)) (by rw [HT1.out]; simp; omega) (by simp) ?_; intro v' w3 hown' hg' hat'; rw [List.nil_append] at hown'; have hx3 := (HXD.out.alloc (.cells #[] 5)).more hg' (fun r e => by have := ((mine_empty (w.drewN (q1 + 1))).block r e).1; exact this); obtain ⟨Bv, cv, ev', hcv, _⟩ := hown'.slice HS1.out; rw [HT1.out] at ev' hcv; subst ev'; have HO := Lib.hid hown'; have HX3 := Lib.hid hx3; clear hown' hg' hat' hx3)
    have HR3 := Lib.hid (HRR.out.ext HX3.out)
    have z0 := HR3.out.c0
    have z1 := HR3.out.c1
    have y1 := HR3.out.z1
    refine ⟨fun h => absurd h (by decide), ?_⟩
    refine stab_one rfl (fun K hK => ?_)
    go_wp2
    refine ⟨fun h => absurd h (by decide), ?_⟩
    unfold wpStab
    go_wp2
    go_ret
    have hmv := mine_only (X := fun k => k = g) HO.out (Only.of_grown (grown_set' w3 g 1 (.int .i64 (p2 : Int))) (fun k e => by cases e; rfl)) (fun k hk e => by have := (HO.out.block k hk).1; omega)
    exact ⟨(Only.of_ext HX3.out).trans (Only.of_grown (grown_set' _ g 1 (.int .i64 (p2 : Int))) (fun k e => by cases e; rfl)), _, rfl, by
      have h := mine_own (hmv.down (base' := w.heap.size) (by omega)) HS1.out
      exact h, by rw [HN.out, HDL.out, HAT.out]; exact HR3.out.set1 p2⟩

theorem OwnB.down {base base' : Nat} {v : Value} {w : World} {l : List Nat} (h : OwnB base v w l) (hb : base' ≤ base) : OwnB base' v w l := by
  obtain ⟨B, c, e, hc, hr, hbl⟩ := h
  exact ⟨B, c, e, hc, hr, fun b o e hl => Nat.le_trans hb (hbl b o e hl)⟩
set_option maxHeartbeats 800000 in
theorem ref8r_none (g : Nat) (B : Option Addr) (n cb a e : Nat) (m : Int) (w : World) (hR : RR w g B n cb a e) (he : 0 < e) :
    Calls Try.prog 48 #[.pointer (some ⟨g, 0, none⟩), .int .i64 m] w (fun en w' => en = .returned (.slice none 0 0) ∧ w = w') := by
  have z2 := hR.c2
  have t0 : ((e : Int) != 0) = true := by simp; omega
  clear hR he
  go_enter Try.func48, Try.ntmps48
  go_wp2
  go_ret
  exact ⟨rfl, rfl⟩

set_option maxHeartbeats 1600000 in
set_option maxRecDepth 100000 in
theorem ref8r_text (l rest : List Nat) (g : Nat) (B : Option Addr) (cb m : Nat) (w : World) (hr : Rd w B l) (hcb : l.length ≤ cb) (hfar : ∀ b o, B = some ⟨b, o, none⟩ → 0 < l.length → b ≠ g) (hl : l.length ≤ 65536) (hd : ∃ pre, l = pre ++ rest) (hR : RR w g B l.length cb (l.length - rest.length) 0) (hm : m ≤ 5000) :
    Calls Try.prog 39 #[.pointer (some ⟨g, 0, none⟩), .int .i64 (m : Int)] w (RefE l g B cb (OptB w.heap.size) (rdT m rest) w) := by
  have HN := Lib.hid (ref8r_number l rest g B cb m w hr hfar hl hd hR (by omega))
  have e0 : max (m : Int) 0 = (m : Int) := by omega
  have e0' : max 0 (m : Int) = (m : Int) := by omega
  have e1 : IntKind.u64.wrap (m : Int) = (m : Int) := by rw [IntKind.wrap_u64]; omega
  have hsr : Sm rest := by obtain ⟨pre, hp⟩ := hd; rw [hp] at hr; exact (sm_split hr.1).2
  unfold rdT
  cases hres : rdN m rest with
  | er e =>
    rw [hres] at HN
    have he := (rdN_er hres).1
    clear hr hR hd hfar hres hsr
    go_enter Try.func39, Try.ntmps39
    go_wp2_with fail
    refine HN.out.mono ?_
    rintro en w1 ⟨ho, v, a, rfl, rfl, hrr⟩
    have HO := Lib.hid ho
    have HRR := Lib.hid hrr
    clear ho hrr
    go_wp2_with fail
    refine (ref8r_none g B l.length cb a e 0 w1 HRR.out he).mono ?_
    rintro en w2 ⟨rfl, rfl⟩
    go_wp2
    go_ret
    exact ⟨HO.out, _, a, rfl, ⟨none, 0, rfl, Nat.le_refl _, Rd.nil _ _, fun _ _ _ h => absurd h (by simp)⟩, HRR.out⟩
  | ok k r =>
    rw [hres] at HN
    obtain ⟨hk1, _, hk3⟩ := vn_rdN hsr hres
    have hkm : k ≤ 5000 := by omega
    have e2 : IntKind.i64.wrap (k : Int) = (k : Int) := IntWalk.i64_in _ (by omega)
    have HB := Lib.hid (fun w1 (ho : Only (fun k => k = g) w w1) (hrr : RR w1 g B l.length cb (l.length - r.length) 0) => ref8r_bytes l r g B cb k w1 (rd_keep hr ho hfar) hcb hl (by
      obtain ⟨pre, hp⟩ := hd
      exact ⟨pre ++ vn k, by rw [List.append_assoc, ← hk1]; exact hp⟩) hrr (by omega))
    show Calls _ _ _ _ (RefE l g B cb (OptB w.heap.size) (rdB k r) w)
    clear hr hR hd hfar hres hsr hk1 hk3
    go_enter Try.func39, Try.ntmps39
    go_wp2_with fail
    refine HN.out.mono ?_
    rintro en w1 ⟨ho, v, rfl, rfl, hrr⟩
    have HO := Lib.hid ho
    have HB1 := Lib.hid (HB.out w1 ho hrr)
    have hs1 := ho.size
    clear ho hrr
    go_wp2_with fail
    refine HB1.out.mono ?_
    intro en w2 h2
    cases hrd : rdB k r with
    | ok t r2 =>
      rw [hrd] at h2
      obtain ⟨ho2, v2, rfl, hv2, hrr2⟩ := h2
      have HH := Lib.hid (show Only (fun k => k = g) w w2 ∧ OwnB w.heap.size v2 w2 t ∧ RR w2 g B l.length cb (l.length - r2.length) 0 from ⟨HO.out.trans ho2, OwnB.down hv2 hs1, hrr2⟩)
      have HRD := Lib.hid hrd
      clear ho2 hv2 hrr2 hrd
      go_wp2
      go_ret
      refine ⟨HH.out.1, ?_⟩
      rw [HRD.out]
      exact ⟨_, rfl, HH.out.2.1, HH.out.2.2⟩
    | er e =>
      rw [hrd] at h2
      obtain ⟨ho2, v2, a, rfl, hv2, hrr2⟩ := h2
      have HH := Lib.hid (show Only (fun k => k = g) w w2 ∧ OwnB w.heap.size v2 w2 [] ∧ RR w2 g B l.length cb a e from ⟨HO.out.trans ho2, OwnB.down hv2 hs1, hrr2⟩)
      have HRD := Lib.hid hrd
      clear ho2 hv2 hrr2 hrd
      go_wp2
      go_ret
      refine ⟨HH.out.1, ?_⟩
      rw [HRD.out]
      exact ⟨_, a, rfl, HH.out.2.1, HH.out.2.2⟩

set_option maxHeartbeats 1600000 in
set_option maxRecDepth 100000 in
theorem ref8r_end (rest : List Nat) (g : Nat) (B : Option Addr) (n cb : Nat) (w : World) (hR : RR w g B n cb (n - rest.length) 0) (hl : rest.length ≤ n) :
    Calls Try.prog 40 #[.pointer (some ⟨g, 0, none⟩)] w (fun e w' => e = .returned (.int .i64 (if rest = [] then 0 else 3)) ∧ Only (fun k => k = g) w w') := by
  have z0 := hR.c0
  have z1 := hR.c1
  have z2 := hR.c2
  have y2 := hR.z2
  have HZ := Lib.hid (fun q v => World.cell?_setCell_same' (w.drewN q) ⟨g, 2, none⟩ v (by rw [show (w.drewN q).cell? ⟨g, 2, none⟩ = w.cell? ⟨g, 2, none⟩ from rfl, hR.c2]; rfl))
  clear hR
  cases rest with
  | nil =>
    rw [if_pos rfl]
    have d1 : decide (n - ([] : List Nat).length < n) = false := decide_eq_false (by simp)
    generalize n - ([] : List Nat).length = a at *
    clear hl
    go_enter Try.func40, Try.ntmps40
    go_wp2
    go_quiet (fail)
    go_wp2
    go_ret
    exact ⟨rfl, (Only.refl _ w).drewN nq⟩
  | cons x r =>
    rw [if_neg (by simp)]
    obtain ⟨a, ha⟩ : ∃ a, n - (x :: r).length = a := ⟨_, rfl⟩
    rw [ha] at z1
    have d1 : decide (a < n) = true := decide_eq_true (by simp at ha hl; omega)
    clear hl ha
    go_enter Try.func40, Try.ntmps40
    go_wp2
    go_quiet (fail)
    have z3 := HZ.out nq (.int .i64 3)
    go_wp2
    go_ret
    exact ⟨rfl, ((Only.refl _ w).drewN nq).trans (Only.of_grown (grown_set' _ g 2 (.int .i64 3)) (fun k e => by cases e; rfl))⟩
end Go.Proofs.Ytjifionpblpfoaa

/-
  The document's own reader of layer 8, whatever it has read before: numbers, texts, the end. Conditions: no more than 2^16 bytes.
-/
namespace Go.Proofs.Ytjifionpblpfoaa
open Go.RowKit
open Pol (co Sm)

/-- Where the reader of l stands: what is left, or its error. -/
def Stn (l : List Nat) (g : Nat) (B : Option Addr) (cb : Nat) (w : World) (r : Rs Unit) : Prop :=
  match r with
  | .ok _ rest => (∃ pre, l = pre ++ rest) ∧ RR w g B l.length cb (l.length - rest.length) 0
  | .er n => 0 < n ∧ ∃ a, RR w g B l.length cb a n
def Rs.unit {α : Type} (r : Rs α) : Rs Unit := match r with | .ok _ rest => .ok () rest | .er n => .er n
def Rs.val {α : Type} (r : Rs α) (z : α) : α := match r with | .ok a _ => a | .er _ => z
theorem Stn.ext {l : List Nat} {g cb : Nat} {B : Option Addr} {w w' : World} {r : Rs Unit} (h : Stn l g B cb w r) (hx : Ext w w') : Stn l g B cb w' r := by
  cases r with
  | ok u rest => exact ⟨h.1, h.2.ext hx⟩
  | er n =>
    obtain ⟨h0, a, h1⟩ := h
    exact ⟨h0, a, h1.ext hx⟩
theorem Stn.only {X : Nat → Prop} {l : List Nat} {g cb : Nat} {B : Option Addr} {w w' : World} {r : Rs Unit} (h : Stn l g B cb w r) (ho : Only X w w') (hx : ¬ X g) : Stn l g B cb w' r := by
  cases r with
  | ok u rest => exact ⟨h.1, h.2.only ho hx⟩
  | er n =>
    obtain ⟨h0, a, h1⟩ := h
    exact ⟨h0, a, h1.only ho hx⟩
theorem Stn.lt {l : List Nat} {g cb : Nat} {B : Option Addr} {w : World} {r : Rs Unit} (h : Stn l g B cb w r) : g < w.heap.size := by
  cases r with
  | ok u rest => exact block_lt_of_cell h.2.c0
  | er n =>
    obtain ⟨_, a, h1⟩ := h
    exact block_lt_of_cell h1.c0
set_option maxHeartbeats 1600000 in
theorem rd14_none (g : Nat) (B : Option Addr) (n cb a e most : Nat) (w : World) (hR : RR w g B n cb a e) (he : 0 < e) :
    Calls Try.prog 38 #[.pointer (some ⟨g, 0, none⟩), .int .u64 (most : Int)] w (fun en w' => en = .returned (.int .u64 0) ∧ w = w') := by
  have z2 := hR.c2
  have t0 : ((e : Int) == 0) = false := by simp; omega
  have t1 : decide ((e : Int) = 0) = false := decide_eq_false (by omega)
  have t2 : decide (e = 0) = false := decide_eq_false (by omega)
  clear hR he
  go_enter Try.func38, Try.ntmps38
  go_wp2
  go_loopg [5, 6, 7] 0 (fun gk s5 s6 s7 wx => w = wx)
  case atStart => rfl
  case round =>
    subst hrel
    go_wp2
    go_ret
    exact ⟨rfl, rfl⟩
set_option maxHeartbeats 1600000 in
theorem rd14_tnone (g : Nat) (B : Option Addr) (n cb a e : Nat) (most : Nat) (w : World) (hR : RR w g B n cb a e) (he : 0 < e) (hm : most < 9223372036854775808) :
    Calls Try.prog 39 #[.pointer (some ⟨g, 0, none⟩), .int .i64 (most : Int)] w (fun en w' => en = .returned (.slice none 0 0) ∧ w = w') := by
  have HN := Lib.hid (rd14_none g B n cb a e most w hR he)
  have HB := Lib.hid (ref8r_none g B n cb a e 0 w hR he)
  have e1 : IntKind.u64.wrap (most : Int) = (most : Int) := by rw [IntKind.wrap_u64]; omega
  have m1 : max (most : Int) 0 = (most : Int) := by omega
  clear hR he
  go_enter Try.func39, Try.ntmps39
  go_wp2_with fail
  refine HN.out.mono ?_
  rintro en w1 ⟨rfl, rfl⟩
  go_wp2_with fail
  refine HB.out.mono ?_
  rintro en w2 ⟨rfl, rfl⟩
  go_wp2
  go_ret
  exact ⟨rfl, rfl⟩
theorem rd14_number (l : List Nat) (g : Nat) (B : Option Addr) (cb most : Nat) (w : World) (r : Rs Unit) (hr : Rd w B l) (hfar : ∀ b o, B = some ⟨b, o, none⟩ → 0 < l.length → b ≠ g) (hl : l.length ≤ 65536) (hm : most < 18446744073709551616) (h : Stn l g B cb w r) :
    Calls Try.prog 38 #[.pointer (some ⟨g, 0, none⟩), .int .u64 (most : Int)] w
      (fun e w' => Only (fun k => k = g) w w' ∧ e = .returned (.int .u64 (((r.bind fun _ rest => rdN most rest).val 0 : Nat) : Int)) ∧ Stn l g B cb w' (r.bind fun _ rest => rdN most rest).unit) := by
  cases r with
  | er n =>
    obtain ⟨h0, a, h1⟩ := h
    refine (rd14_none g B l.length cb a n most w h1 h0).mono ?_
    rintro e w' ⟨rfl, rfl⟩
    exact ⟨Only.refl _ _, rfl, h0, a, h1⟩
  | ok u rest =>
    obtain ⟨⟨pre, hp⟩, h1⟩ := h
    have hs : Sm rest := by have h := hr.1; rw [hp] at h; exact (sm_split h).2
    refine (ref8r_number l rest g B cb most w hr hfar hl ⟨pre, hp⟩ h1 hm).mono ?_
    rintro e w' ⟨ho, h⟩
    show Only _ _ _ ∧ e = .returned (.int .u64 (((rdN most rest).val 0 : Nat) : Int)) ∧ Stn l g B cb w' (rdN most rest).unit
    cases hq : rdN most rest with
    | ok n rest' =>
      rw [hq] at h
      obtain ⟨v, he, hv, hR⟩ := h
      subst hv
      obtain ⟨e1, _, _⟩ := vn_rdN hs hq
      exact ⟨ho, he, ⟨pre ++ vn n, by rw [List.append_assoc, ← e1]; exact hp⟩, hR⟩
    | er n =>
      rw [hq] at h
      obtain ⟨v, a, he, hv, hR⟩ := h
      subst hv
      exact ⟨ho, he, (rdN_er hq).1, a, hR⟩
theorem rd14_text (l : List Nat) (g : Nat) (B : Option Addr) (cb most : Nat) (w : World) (r : Rs Unit) (hr : Rd w B l) (hcb : l.length ≤ cb) (hfar : ∀ b o, B = some ⟨b, o, none⟩ → 0 < l.length → b ≠ g) (hl : l.length ≤ 65536) (hm : most ≤ 5000) (h : Stn l g B cb w r) :
    Calls Try.prog 39 #[.pointer (some ⟨g, 0, none⟩), .int .i64 (most : Int)] w
      (fun e w' => Only (fun k => k = g) w w' ∧ (∃ D n c, e = .returned (.slice D n c) ∧ ((r.bind fun _ rest => rdT most rest).val []).length = n ∧ n ≤ c ∧ Rd w' D ((r.bind fun _ rest => rdT most rest).val []) ∧ ∀ b o, D = some ⟨b, o, none⟩ → 0 < n → w.heap.size ≤ b) ∧ Stn l g B cb w' (r.bind fun _ rest => rdT most rest).unit) := by
  cases r with
  | er n =>
    obtain ⟨h0, a, h1⟩ := h
    refine (rd14_tnone g B l.length cb a n most w h1 h0 (by omega)).mono ?_
    rintro e w' ⟨rfl, rfl⟩
    exact ⟨Only.refl _ _, ⟨none, 0, 0, rfl, rfl, Nat.le_refl _, Rd.nil _ _, fun b o h => by cases h⟩, h0, a, h1⟩
  | ok u rest =>
    obtain ⟨⟨pre, hp⟩, h1⟩ := h
    have hs : Sm rest := by have h := hr.1; rw [hp] at h; exact (sm_split h).2
    refine (ref8r_text l rest g B cb most w hr hcb hfar hl ⟨pre, hp⟩ h1 hm).mono ?_
    rintro e w' ⟨ho, h⟩
    show Only _ _ _ ∧ (∃ D n c, e = .returned (.slice D n c) ∧ ((rdT most rest).val []).length = n ∧ n ≤ c ∧ Rd w' D ((rdT most rest).val []) ∧ ∀ b o, D = some ⟨b, o, none⟩ → 0 < n → w.heap.size ≤ b) ∧ Stn l g B cb w' (rdT most rest).unit
    cases hq : rdT most rest with
    | ok n rest' =>
      rw [hq] at h
      obtain ⟨v, he, ⟨D, c, rfl, hc, hD, hb⟩, hR⟩ := h
      obtain ⟨e1, _, _⟩ := vt_rdT hs hq
      exact ⟨ho, ⟨D, _, c, he, rfl, hc, hD, fun b o e hn => hb b o e hn⟩, ⟨pre ++ vt n, by rw [List.append_assoc, ← e1]; exact hp⟩, hR⟩
    | er n =>
      rw [hq] at h
      obtain ⟨v, a, he, ⟨D, c, rfl, hc, hD, hb⟩, hR⟩ := h
      exact ⟨ho, ⟨D, _, c, he, rfl, hc, hD, fun b o e hn => hb b o e hn⟩, (rdT_er hq).1, a, hR⟩
/-- The error's number at the end. -/
def endc (r : Rs Unit) : Nat := match r with | .ok _ rest => if rest = [] then 0 else 3 | .er n => n
set_option maxHeartbeats 800000 in
theorem rd14_end (l : List Nat) (g : Nat) (B : Option Addr) (cb : Nat) (w : World) (r : Rs Unit) (h : Stn l g B cb w r) :
    Calls Try.prog 40 #[.pointer (some ⟨g, 0, none⟩)] w (fun e w' => e = .returned (.int .i64 ((endc r : Nat) : Int)) ∧ Only (fun k => k = g) w w') := by
  cases r with
  | ok u rest =>
    obtain ⟨⟨pre, hp⟩, h1⟩ := h
    refine (ref8r_end rest g B l.length cb w h1 (by rw [hp, List.length_append]; omega)).mono ?_
    rintro e w' ⟨he, ho⟩
    refine ⟨?_, ho⟩
    rw [he]
    unfold endc
    dsimp only
    split <;> rfl
  | er n =>
    obtain ⟨h0, a, h1⟩ := h
    have z2 := h1.c2
    have t0 : ((n : Int) == 0) = false := by simp; omega
    have t1 : decide ((n : Int) = 0) = false := decide_eq_false (by omega)
    have t2 : decide (n = 0) = false := decide_eq_false (by omega)
    clear h1 h0
    show Calls _ _ _ _ (fun e w' => e = .returned (.int .i64 (n : Int)) ∧ _)
    go_enter Try.func40, Try.ntmps40
    go_wp2
    go_quiet (fail)
    go_wp2
    go_ret
    exact ⟨rfl, (Only.refl _ w).drewN nq⟩
end Go.Proofs.Ytjifionpblpfoaa

/-
  Part 4 of the texts that the seat's proofs stand on; each part of it begins with its own sentence and conditions. Conditions: those that each theorem names.
-/
import Derived.Test.YthbfodmpoheahaaDoorGrowsPack3
import Derived.StillTail
import Derived.ChangeKeysEq

/-
  A region that draws its order, some of whose operations only read what stays: these may be taken ahead of the others, and the others come one after the other. Conditions: a check of the region's text (by the kernel); of no program in particular.
-/
namespace Go.Proofs.YthbfodmpoheahaaDoor
open Go

section
variable {P : Program} {ops : Array Oper} {Q : Exit → Act → World → Prop} {md : Region.Mode} {C : World → Prop}

/-- In every world of the class the operation yields v and leaves the world alone. -/
def YieldsC (P : Program) (ops : Array Oper) (C : World → Prop) (o : Oper) (v : Value) (a : Act) : Prop :=
  (Region.wanted o (yielded ops a.tmps) = true ∧ ∀ w, C w → (execOp a.eval o).run P w = .ok (.value v) w) ∨ (Region.wanted o (yielded ops a.tmps) = false ∧ v = undef) ∨
    (Region.wanted o (yielded ops a.tmps) = true ∧ ∃ f args, (∀ w, C w → (execOp a.eval o).run P w = .ok (.enter f args) w) ∧ ∀ w, C w → Calls P f args w (fun e w' => e = .returned v ∧ w = w'))
theorem YieldsC.wpOp {i : Nat} {o : Oper} {v : Value} {a : Act} (hi : ops[i]? = some o) (hy : YieldsC P ops C o v a) {K : Act → World → Prop} {w : World} (hw : C w) (h : K (a.put o.dst v) w) : wpOp P ops Q i K a w := by
  unfold Go.wpOp
  simp only [hi]
  rcases hy with ⟨hg, hv⟩ | ⟨hg, rfl⟩ | ⟨hg, f, args, hv, hc⟩
  · simp only [hg, if_true, Oper.wp, hv w hw, Oper.upon]; exact .inl h
  · simp only [hg, Bool.false_eq_true, if_false]; exact h
  · simp only [hg, if_true, Oper.wp, hv w hw, Oper.upon]
    refine .inl (Calls.mono (hc w hw) ?_)
    rintro e w' ⟨rfl, rfl⟩
    exact h
theorem YieldsC.of_same {o : Oper} {v : Value} {a a' : Act} (hy : YieldsC P ops C o v a) (he : execOp a'.eval o = execOp a.eval o) (hw : Region.wanted o (yielded ops a'.tmps) = Region.wanted o (yielded ops a.tmps)) : YieldsC P ops C o v a' := by
  unfold YieldsC at *
  rw [he, hw]
  exact hy
theorem wpOp_putC {j : Nat} {oi oj : Oper} {v : Value} (hj : ops[j]? = some oj) (hap : oi.apart ops oj = true) (hsi : ∀ cs b, oi.op ≠ .select cs b) (hsj : ∀ cs b, oj.op ≠ .select cs b)
    (hQ : ∀ c a w, Q (.panic c) (a.put oi.dst v) w → Q (.panic c) a w) {K : Act → World → Prop} {a : Act} {w : World} (hy : YieldsC P ops C oi v a) (h : wpOp P ops Q j K (a.put oi.dst v) w) :
    wpOp P ops Q j (fun a' w' => YieldsC P ops C oi v a' ∧ K (a'.put oi.dst v) w') a w := by
  obtain ⟨h1, h2, h3⟩ := Oper.apart_spec hap
  have keep : ∀ (a : Act), YieldsC P ops C oi v a → ∀ u, YieldsC P ops C oi v (a.put oj.dst u) := fun a hy u => hy.of_same (execOp_put oi hsi a oj.dst u h3) (wanted_put oi a oj.dst u h3)
  have keepD : ∀ d, YieldsC P ops C oi v { a with defers := d :: a.defers } := fun d => hy.of_same rfl rfl
  unfold wpOp at *
  simp only [hj] at *
  rw [wanted_put oj a oi.dst v h1] at h
  split
  · rename_i hw
    simp only [hw, if_true] at h
    rcases h with h | ⟨hasks, hlets⟩
    case inr => exact .inr ⟨by unfold Oper.asks at *; rw [execOp_put oj hsj a oi.dst v h1] at hasks; exact hasks, hlets⟩
    refine .inl ?_
    unfold Oper.wp at *
    rw [execOp_put oj hsj a oi.dst v h1] at h
    generalize (execOp a.eval oj).run P w = r at *
    cases r with
    | ok n w' =>
      cases n <;> simp only [Oper.upon] at h ⊢
      case value u => exact ⟨keep a hy u, by rw [← Act.put_comm a v u h2]; exact h⟩
      case skip => exact ⟨keep a hy _, by rw [← Act.put_comm a v undef h2]; exact h⟩
      case defer d =>
        refine ⟨keep _ (keepD d) _, ?_⟩
        rw [← Act.put_comm _ v undef h2, ← Act.put_defers]
        exact h
      case enter f args =>
        refine Calls.mono h fun e w'' he => ?_
        cases e with
        | returned u => exact ⟨keep a hy u, by rw [← Act.put_comm a v u h2]; exact he⟩
        | panicked c => exact hQ _ _ _ he
        | outgrown => exact he
      case row row args => exact Rows.mono h fun u w'' he => ⟨keep a hy u, by rw [← Act.put_comm a v u h2]; exact he⟩
    | halt x w' =>
      cases x <;> simp only [Oper.upon] at h ⊢
      case panic u => exact hQ _ _ _ h
  · rename_i hw
    simp only [hw] at h
    exact ⟨keep a hy _, by rw [← Act.put_comm a v undef h2]; exact h⟩

/-- As wpAny, and the operations of F leave the world in the class. -/
def wpAnyC (P : Program) (md : Region.Mode) (ops : Array Oper) (C : World → Prop) (F : Nat → Bool) (Q : Exit → Act → World → Prop) : Nat → Array Bool → Act → World → Prop
  | 0, listed, a, w => Region.ready md ops listed = [] ∧ Q .normal a w
  | fuel + 1, listed, a, w => (Region.ready md ops listed = [] → Q .normal a w) ∧ ∀ i ∈ Region.ready md ops listed, wpOp P ops Q i (fun a' w' => (F i = true → C w') ∧ wpAnyC P md ops C F Q fuel (listed.setIfInBounds i true) a' w') a w
theorem wpAny_of_C {F : Nat → Bool} : ∀ (fuel : Nat) (listed : Array Bool) (a : Act) (w : World), wpAnyC P md ops C F Q fuel listed a w → wpAny P md ops Q fuel listed a w
  | 0, _, _, _, h => h
  | fuel + 1, _, _, _, h => ⟨h.1, fun i hi => wpOp_mono (fun a' w' h' => wpAny_of_C fuel _ a' w' h'.2) (h.2 i hi)⟩
/-- What is listed waits for nothing that is not. -/
def Closed (md : Region.Mode) (ops : Array Oper) (listed : Array Bool) : Prop := ∀ j oj, ops[j]? = some oj → listed.getD j false = true → ∀ e ∈ oj.after, Region.binds md e = true → listed.getD e.on false = true
theorem Closed.set {listed : Array Bool} (h : Closed md ops listed) {i : Nat} (hi : i ∈ Region.ready md ops listed) : Closed md ops (listed.setIfInBounds i true) := fun j oj hoj hl e he hb => by
  by_cases hji : j = i
  · subst hji
    obtain ⟨_, o, ho, hall⟩ := mem_ready.1 hi
    rw [hoj] at ho
    injection ho with ho
    subst ho
    exact getD_set_true (hall e he hb)
  · rw [getD_set_ne false (fun h => hji h.symm)] at hl
    exact getD_set_true (h j oj hoj hl e he hb)
/-- What stands behind i; what is not of F does. -/
def bhStep (md : Region.Mode) (ops : Array Oper) (i : Nat) (acc : List Nat) (j : Nat) : List Nat :=
  match ops[j]? with
  | some oj => if oj.after.any (fun e => Region.binds md e && (e.on == i || acc.contains e.on)) then j :: acc else acc
  | none => acc
def behindB (md : Region.Mode) (ops : Array Oper) (F : Nat → Bool) (i : Nat) : Bool :=
  (List.range ops.size).all fun j => j == i || F j || ((List.range ops.size).foldl (bhStep md ops i) []).contains j
theorem bh_fold {i : Nat} {listed : Array Bool} (hc : Closed md ops listed) (hi : listed.getD i false = false) : ∀ (l acc : List Nat), (∀ j ∈ acc, listed.getD j false = false ∧ j ∉ Region.ready md ops listed) →
    ∀ j ∈ l.foldl (bhStep md ops i) acc, listed.getD j false = false ∧ j ∉ Region.ready md ops listed
  | [], acc, h => h
  | k :: l, acc, h => by
    refine bh_fold hc hi l (bhStep md ops i acc k) ?_
    unfold bhStep
    cases hk : ops[k]? with
    | none => exact h
    | some ok =>
      simp only
      split
      · rename_i hany
        intro j hj
        rcases List.mem_cons.1 hj with e | e
        · subst e
          obtain ⟨e, he, hb⟩ := Array.any_eq_true'.1 hany
          simp only [Bool.and_eq_true, Bool.or_eq_true, beq_iff_eq] at hb
          have hno : listed.getD e.on false = false := by
            rcases hb.2 with h2 | h2
            · rw [h2]; exact hi
            · exact (h e.on (by simpa using h2)).1
          constructor
          · cases hl : listed.getD j false with
            | false => rfl
            | true =>
              have := hc j ok hk hl e he hb.1
              rw [hno] at this
              cases this
          · intro hr
            obtain ⟨_, o, ho, hall⟩ := mem_ready.1 hr
            rw [hk] at ho
            injection ho with ho
            subst ho
            have := hall e he hb.1
            rw [hno] at this
            cases this
        · exact h j e
      · exact h
theorem behind_not {F : Nat → Bool} {i : Nat} (hB : behindB md ops F i = true) {listed : Array Bool} (hc : Closed md ops listed) (hi : listed.getD i false = false) :
    ∀ j, j < ops.size → j ≠ i → F j = false → listed.getD j false = false ∧ j ∉ Region.ready md ops listed := fun j hj hji hF => by
  have h1 := List.all_eq_true.1 hB j (List.mem_range.2 hj)
  simp only [hF, Bool.or_false, Bool.or_eq_true, beq_iff_eq, hji, false_or] at h1
  exact bh_fold hc hi _ [] (fun _ h => absurd h (by simp)) j (by simpa using h1)

theorem wpAnyC_first {F : Nat → Bool} {i : Nat} {oi : Oper} {v : Value} (hi : ops[i]? = some oi) (hsel : ∀ (j : Nat) (o : Oper) cs b, ops[j]? = some o → o.op ≠ .select cs b)
    (hQ : ∀ c a w, Q (.panic c) (a.put oi.dst v) w → Q (.panic c) a w) (hB : behindB md ops F i = true) :
    ∀ (fuel : Nat) (listed : Array Bool) (a : Act) (w : World), C w → Closed md ops listed →
      (∀ j oj, ops[j]? = some oj → j ≠ i → listed.getD j true = false → (∀ e ∈ oj.after, Region.binds md e = true → e.on ≠ i) → oi.apart ops oj = true) →
      i ∈ Region.ready md ops listed → YieldsC P ops C oi v a →
      wpAnyC P md ops C F Q fuel (listed.setIfInBounds i true) (a.put oi.dst v) w → wpAnyC P md ops C F Q (fuel + 1) listed a w := by
  intro fuel
  induction fuel with
  | zero =>
    intro listed a w hC _ _ hr hy H
    refine ⟨fun h => (by rw [h] at hr; cases hr), fun j hj => ?_⟩
    by_cases hji : j = i
    · subst hji; exact hy.wpOp hi hC ⟨fun _ => hC, H⟩
    · have := ready_mono hj hji
      rw [H.1] at this
      cases this
  | succ fuel ih =>
    intro listed a w hC hcl hfree hr hy H
    refine ⟨fun h => (by rw [h] at hr; cases hr), fun j hj => ?_⟩
    by_cases hji : j = i
    · subst hji; exact hy.wpOp hi hC ⟨fun _ => hC, H⟩
    · have h1 := H.2 j (ready_mono hj hji)
      obtain ⟨hjun, oj, hoj, hall⟩ := mem_ready.1 hj
      have hiun := (mem_ready.1 hr).1
      have hnot : ∀ e ∈ oj.after, Region.binds md e = true → e.on ≠ i := fun e he hb heq => by
        have h1 := hall e he hb
        rw [heq, getD_both hiun] at h1
        cases h1
      have hFj : F j = true := by
        cases hF : F j with
        | true => rfl
        | false => exact absurd hj (behind_not hB hcl (getD_both hiun) j (Array.getElem?_eq_some_iff.1 hoj).1 hji hF).2
      have h2 := wpOp_putC hoj (hfree j oj hoj hji hjun hnot) (fun cs b => hsel i oi cs b hi) (fun cs b => hsel j oj cs b hoj) hQ hy h1
      have hfree' : ∀ k ok, ops[k]? = some ok → k ≠ i → (listed.setIfInBounds j true).getD k true = false →
          (∀ e ∈ ok.after, Region.binds md e = true → e.on ≠ i) → oi.apart ops ok = true := fun k ok hk hki hun hno => by
        refine hfree k ok hk hki ?_ hno
        by_cases hjk : j = k
        · subst hjk; exact hjun
        · rw [getD_set_ne true hjk] at hun; exact hun
      refine wpOp_mono (fun a' w' h3 => ⟨fun _ => h3.2.1 hFj, ih (listed.setIfInBounds j true) a' w' (h3.2.1 hFj) (hcl.set hj) hfree' (ready_mono hr (Ne.symm hji)) h3.1 ?_⟩) h2
      rw [Array.setIfInBounds_comm _ _ hji]
      exact h3.2.2

/-- The walk: an operation that only reads what stays (true), or the only one that may come up (false). -/
def wpStab (P : Program) (l : List Oper) (C : World → Prop) (F : Nat → Bool) (Q : Exit → Act → World → Prop) : List (Nat × Bool) → Act → World → Prop
  | [], a, w => wpList P l.toArray Q [] a w
  | (i, true) :: π, a, w => ∃ o v, l[i]? = some o ∧ YieldsC P l.toArray C o v a ∧ wpStab P l C F Q π (a.put o.dst v) w
  | (i, false) :: π, a, w => ∃ o, l[i]? = some o ∧ wpList P l.toArray (Exit.then (fun a' w' => (F i = true → C w') ∧ wpStab P l C F Q π a' w') Q) [o] a w
theorem stab_yes {F : Nat → Bool} {l : List Oper} {i : Nat} {o : Oper} {π : List (Nat × Bool)} {a : Act} {w : World} (ho : l[i]? = some o)
    (h : ∀ K : Act → Prop, (∀ a', wpStab P l C F Q π a' w → K a') → Region.wanted o (yielded l.toArray a.tmps) = true ∧ ∃ v, (∀ W, C W → (execOp a.eval o).run P W = .ok (.value v) W) ∧ K (a.put o.dst v)) : wpStab P l C F Q ((i, true) :: π) a w := by
  obtain ⟨h1, v, h2, h3⟩ := h (fun a' => wpStab P l C F Q π a' w) (fun _ h => h)
  exact ⟨o, v, ho, .inl ⟨h1, h2⟩, h3⟩
theorem stab_call {F : Nat → Bool} {l : List Oper} {i : Nat} {o : Oper} {π : List (Nat × Bool)} {a : Act} {w : World} (ho : l[i]? = some o)
    (h : ∀ K : Act → Prop, (∀ a', wpStab P l C F Q π a' w → K a') → Region.wanted o (yielded l.toArray a.tmps) = true ∧ ∃ f args v, (∀ W, C W → (execOp a.eval o).run P W = .ok (.enter f args) W) ∧ (∀ W, C W → Calls P f args W (fun e w' => e = .returned v ∧ W = w')) ∧ K (a.put o.dst v)) : wpStab P l C F Q ((i, true) :: π) a w := by
  obtain ⟨h1, f, args, v, h2, h3, h4⟩ := h (fun a' => wpStab P l C F Q π a' w) (fun _ h => h)
  exact ⟨o, v, ho, .inr (.inr ⟨h1, f, args, h2, h3⟩), h4⟩
theorem stab_one {F : Nat → Bool} {l : List Oper} {i : Nat} {o : Oper} {π : List (Nat × Bool)} {a : Act} {w : World} (ho : l[i]? = some o)
    (h : ∀ K : Act → World → Prop, (∀ a' w', (F i = true → C w') ∧ wpStab P l C F Q π a' w' → K a' w') → wpList P l.toArray (Exit.then K Q) [o] a w) : wpStab P l C F Q ((i, false) :: π) a w :=
  ⟨o, ho, h _ (fun _ _ h => h)⟩
/-- The check: c says whether the world is in the class. -/
def stabB (md : Region.Mode) (ops : Array Oper) (F : Nat → Bool) : Bool → List (Nat × Bool) → Array Bool → Bool
  | _, [], listed => (Region.ready md ops listed).isEmpty
  | c, (i, true) :: π, listed => c && (Region.ready md ops listed).contains i && Region.free md ops listed i && behindB md ops F i && stabB md ops F c π (listed.setIfInBounds i true)
  | c, (i, false) :: π, listed => (Region.ready md ops listed == [i]) && stabB md ops F (c && F i) π (listed.setIfInBounds i true)
theorem wpAnyC_of_stab {F : Nat → Bool} {l : List Oper} (hsel : Region.noSelect l.toArray = true) (hQ : ∀ c a a' w, a.defers = a'.defers → Q (.panic c) a w → Q (.panic c) a' w) :
    ∀ (π : List (Nat × Bool)) (c : Bool) (listed : Array Bool) (a : Act) (w : World), (c = true → C w) → Closed md l.toArray listed → stabB md l.toArray F c π listed = true → wpStab P l C F Q π a w → wpAnyC P md l.toArray C F Q π.length listed a w
  | [], _, listed, a, w, _, _, hB, h => ⟨by simpa [stabB] using hB, h⟩
  | (i, true) :: π, c, listed, a, w, hC, hcl, hB, h => by
    obtain ⟨o, v, ho0, hy, hK⟩ := h
    have ho : l.toArray[i]? = some o := by simpa using ho0
    simp only [stabB, Bool.and_eq_true] at hB
    obtain ⟨⟨⟨⟨hc, hr⟩, hf⟩, hb⟩, hrest⟩ := hB
    have hr' : i ∈ Region.ready md l.toArray listed := by simpa using hr
    exact wpAnyC_first ho (Region.noSelect_spec hsel) (fun ch a w h => hQ ch _ _ w (by cases o.dst <;> rfl) h) hb π.length listed a w (hC hc) hcl (Region.free_spec ho hf) hr' hy
      (wpAnyC_of_stab hsel hQ π c _ _ _ hC (hcl.set hr') hrest hK)
  | (i, false) :: π, c, listed, a, w, hC, hcl, hB, h => by
    obtain ⟨o, ho0, hK⟩ := h
    have ho : l.toArray[i]? = some o := by simpa using ho0
    simp only [stabB, Bool.and_eq_true] at hB
    obtain ⟨hr, hrest⟩ := hB
    have hr1 : Region.ready md l.toArray listed = [i] := by simpa using hr
    have hr' : i ∈ Region.ready md l.toArray listed := by rw [hr1]; simp
    refine ⟨fun h0 => absurd h0 (by rw [hr1]; simp), fun j hj => ?_⟩
    obtain rfl : j = i := by rw [hr1] at hj; simpa using hj
    refine wpOp_mono (fun a' w' h' => ⟨h'.1, wpAnyC_of_stab hsel hQ π (c && F j) _ a' w' (fun hcf => ?_) (hcl.set hr') hrest h'.2⟩) (wpOp_of_one ho hK)
    rw [Bool.and_eq_true] at hcf
    exact h'.1 hcf.2
theorem wp_region_stab {id : Nat} {a : Act} {w : World} {l : List Oper} (C : World → Prop) (F : List Nat) (π : List (Nat × Bool)) (hm : P.follows .mixedOrders = true) (hQ : ∀ c a a' w, a.defers = a'.defers → Q (.panic c) a w → Q (.panic c) a' w)
    (hB : (Region.noSelect l.toArray && (π.length == l.length) && stabB .any l.toArray (fun i => F.contains i) true π (Array.replicate l.length false)) = true) (hC : C w.drew) (h : wpStab P l C (fun i => F.contains i) Q π a w.drew) : (Code.region id l.toArray true).wp P Q a w := by
  simp only [Bool.and_eq_true, beq_iff_eq] at hB
  obtain ⟨⟨hsel, hlen⟩, hst⟩ := hB
  refine wp_region_any hm (wpAny_of_C (C := C) (F := fun i => F.contains i) _ _ _ _ ?_)
  have h1 := wpAnyC_of_stab (P := P) (Q := Q) (C := C) (md := .any) hsel hQ π true (Array.replicate l.length false) a w.drew (fun _ => hC) (fun j oj _ hl => by rw [getD_replicate_false] at hl; cases hl) hst h
  rw [hlen] at h1
  have hsz : l.toArray.size = l.length := by simp
  rw [hsz]
  exact h1
end
/-- Two cells, and what they hold. -/
def Two (p : Addr) (v : Value) (q : Addr) (u : Value) (W : World) : Prop := W.cell? p = some v ∧ W.cell? q = some u
end Go.Proofs.YthbfodmpoheahaaDoor

/-
  A region that draws its order, walked by a plan: operations that only read what stays are taken ahead, one that alone may come up comes up, and where two or three may come up next each of them is walked. Conditions: a check of the region's text (by the kernel); of no program in particular.
-/
namespace Go.Proofs.YthbfodmpoheahaaDoor
open Go

/-- A plan: the end; an operation that only reads what stays; the only one that may come up; one of two; one of three. -/
inductive Plan where
  | done : Plan
  | yes : Nat → Plan → Plan
  | one : Nat → Plan → Plan
  | two : Nat → Plan → Nat → Plan → Plan
  | three : Nat → Plan → Nat → Plan → Nat → Plan → Plan

section
variable {P : Program} {Q : Exit → Act → World → Prop} {md : Region.Mode} {C : World → Prop}
/-- Operation i, and then K. -/
def wpStepP (P : Program) (l : List Oper) (Q : Exit → Act → World → Prop) (i : Nat) (K : Act → World → Prop) (a : Act) (w : World) : Prop :=
  ∃ o, l[i]? = some o ∧ wpList P l.toArray (Exit.then K Q) [o] a w
/-- The walk by a plan. -/
def wpPlan (P : Program) (l : List Oper) (C : World → Prop) (F : Nat → Bool) (Q : Exit → Act → World → Prop) : Plan → Act → World → Prop
  | .done, a, w => wpList P l.toArray Q [] a w
  | .yes i p, a, w => ∃ o v, l[i]? = some o ∧ YieldsC P l.toArray C o v a ∧ wpPlan P l C F Q p (a.put o.dst v) w
  | .one i p, a, w => wpStepP P l Q i (fun a' w' => (F i = true → C w') ∧ wpPlan P l C F Q p a' w') a w
  | .two i p j q, a, w => wpStepP P l Q i (fun a' w' => (F i = true → C w') ∧ wpPlan P l C F Q p a' w') a w ∧ wpStepP P l Q j (fun a' w' => (F j = true → C w') ∧ wpPlan P l C F Q q a' w') a w
  | .three i p j q k r, a, w => wpStepP P l Q i (fun a' w' => (F i = true → C w') ∧ wpPlan P l C F Q p a' w') a w ∧ wpStepP P l Q j (fun a' w' => (F j = true → C w') ∧ wpPlan P l C F Q q a' w') a w ∧ wpStepP P l Q k (fun a' w' => (F k = true → C w') ∧ wpPlan P l C F Q r a' w') a w
theorem plan_yes {F : Nat → Bool} {l : List Oper} {i : Nat} {o : Oper} {π : Plan} {a : Act} {w : World} (ho : l[i]? = some o)
    (h : ∀ K : Act → Prop, (∀ a', wpPlan P l C F Q π a' w → K a') → Region.wanted o (yielded l.toArray a.tmps) = true ∧ ∃ v, (∀ W, C W → (execOp a.eval o).run P W = .ok (.value v) W) ∧ K (a.put o.dst v)) : wpPlan P l C F Q (.yes i π) a w := by
  obtain ⟨h1, v, h2, h3⟩ := h (fun a' => wpPlan P l C F Q π a' w) (fun _ h => h)
  exact ⟨o, v, ho, .inl ⟨h1, h2⟩, h3⟩
theorem plan_call {F : Nat → Bool} {l : List Oper} {i : Nat} {o : Oper} {π : Plan} {a : Act} {w : World} (ho : l[i]? = some o)
    (h : ∀ K : Act → Prop, (∀ a', wpPlan P l C F Q π a' w → K a') → Region.wanted o (yielded l.toArray a.tmps) = true ∧ ∃ f args v, (∀ W, C W → (execOp a.eval o).run P W = .ok (.enter f args) W) ∧ (∀ W, C W → Calls P f args W (fun e w' => e = .returned v ∧ W = w')) ∧ K (a.put o.dst v)) : wpPlan P l C F Q (.yes i π) a w := by
  obtain ⟨h1, f, args, v, h2, h3, h4⟩ := h (fun a' => wpPlan P l C F Q π a' w) (fun _ h => h)
  exact ⟨o, v, ho, .inr (.inr ⟨h1, f, args, h2, h3⟩), h4⟩
theorem plan_load {F : Nat → Bool} {l : List Oper} {i : Nat} {o : Oper} {π : Plan} {a : Act} {w : World} (ho : l[i]? = some o) (ty : TypeId) (x : Operand) (hop : o.op = .load ty x) (v : Value)
    (hw : Region.wanted o (yielded l.toArray a.tmps) = true) (hrun : ∀ W, C W → (Instr.loadAt ty (a.eval x)).run P W = .ok v W) (h : wpPlan P l C F Q π (a.put o.dst v) w) : wpPlan P l C F Q (.yes i π) a w :=
  plan_yes ho (fun _ hK => ⟨hw, v, fun W hW => by simp only [execOp, hop, Sem.run_bind, hrun W hW, Result.andThen, Sem.run_pure], hK _ h⟩)
theorem plan_toArray {F : Nat → Bool} {l : List Oper} {i : Nat} {o : Oper} {π : Plan} {a : Act} {w : World} (ho : l[i]? = some o) (ty : TypeId) (x : Operand) (hop : o.op = .sliceToArrayPointer ty x) (v : Value)
    (hw : Region.wanted o (yielded l.toArray a.tmps) = true) (hrun : ∀ W, C W → (Instr.arrayAt ty (a.eval x)).run P W = .ok v W) (h : wpPlan P l C F Q π (a.put o.dst v) w) : wpPlan P l C F Q (.yes i π) a w :=
  plan_yes ho (fun _ hK => ⟨hw, v, fun W hW => by simp only [execOp, hop, Sem.run_bind, hrun W hW, Result.andThen, Sem.run_pure], hK _ h⟩)
theorem stepP_of {l : List Oper} {i : Nat} {o : Oper} {a : Act} {w : World} {K : Act → World → Prop} (ho : l[i]? = some o)
    (h : ∀ K' : Act → World → Prop, (∀ a' w', K a' w' → K' a' w') → wpList P l.toArray (Exit.then K' Q) [o] a w) : wpStepP P l Q i K a w := ⟨o, ho, h K (fun _ _ h => h)⟩
theorem plan_one {F : Nat → Bool} {l : List Oper} {i : Nat} {o : Oper} {π : Plan} {a : Act} {w : World} (ho : l[i]? = some o)
    (h : ∀ K : Act → World → Prop, (∀ a' w', (F i = true → C w') ∧ wpPlan P l C F Q π a' w' → K a' w') → wpList P l.toArray (Exit.then K Q) [o] a w) : wpPlan P l C F Q (.one i π) a w := stepP_of ho h
theorem plan_two {F : Nat → Bool} {l : List Oper} {i j : Nat} {o u : Oper} {p q : Plan} {a : Act} {w : World} (ho : l[i]? = some o) (hu : l[j]? = some u)
    (h1 : ∀ K : Act → World → Prop, (∀ a' w', (F i = true → C w') ∧ wpPlan P l C F Q p a' w' → K a' w') → wpList P l.toArray (Exit.then K Q) [o] a w)
    (h2 : ∀ K : Act → World → Prop, (∀ a' w', (F j = true → C w') ∧ wpPlan P l C F Q q a' w' → K a' w') → wpList P l.toArray (Exit.then K Q) [u] a w) : wpPlan P l C F Q (.two i p j q) a w := ⟨stepP_of ho h1, stepP_of hu h2⟩
/-- The check: c says whether the world is in the class; n operations are left. -/
def planB (md : Region.Mode) (ops : Array Oper) (F : Nat → Bool) : Nat → Bool → Plan → Array Bool → Bool
  | 0, _, .done, listed => (Region.ready md ops listed).isEmpty
  | n + 1, c, .yes i p, listed => c && (Region.ready md ops listed).contains i && Region.free md ops listed i && behindB md ops F i && planB md ops F n c p (listed.setIfInBounds i true)
  | n + 1, c, .one i p, listed => (Region.ready md ops listed == [i]) && planB md ops F n (c && F i) p (listed.setIfInBounds i true)
  | n + 1, c, .two i p j q, listed => (Region.ready md ops listed == [i, j]) && planB md ops F n (c && F i) p (listed.setIfInBounds i true) && planB md ops F n (c && F j) q (listed.setIfInBounds j true)
  | n + 1, c, .three i p j q k r, listed => (Region.ready md ops listed == [i, j, k]) && planB md ops F n (c && F i) p (listed.setIfInBounds i true) && planB md ops F n (c && F j) q (listed.setIfInBounds j true) && planB md ops F n (c && F k) r (listed.setIfInBounds k true)
  | _, _, _, _ => false
theorem wpAnyC_of_plan {F : Nat → Bool} {l : List Oper} (hsel : Region.noSelect l.toArray = true) (hQ : ∀ c a a' w, a.defers = a'.defers → Q (.panic c) a w → Q (.panic c) a' w) :
    ∀ (n : Nat) (π : Plan) (c : Bool) (listed : Array Bool) (a : Act) (w : World), (c = true → C w) → Closed md l.toArray listed → planB md l.toArray F n c π listed = true → wpPlan P l C F Q π a w → wpAnyC P md l.toArray C F Q n listed a w := by
  intro n
  induction n with
  | zero =>
    intro π c listed a w hC hcl hB h
    cases π <;> simp only [planB, Bool.false_eq_true] at hB
    exact ⟨by simpa using hB, h⟩
  | succ n ih =>
    have step : ∀ (i : Nat) (p : Plan) (c : Bool) (listed : Array Bool) (a : Act) (w : World), (c = true → C w) → Closed md l.toArray listed → i ∈ Region.ready md l.toArray listed → planB md l.toArray F n (c && F i) p (listed.setIfInBounds i true) = true →
        wpStepP P l Q i (fun a' w' => (F i = true → C w') ∧ wpPlan P l C F Q p a' w') a w → wpOp P l.toArray Q i (fun a' w' => (F i = true → C w') ∧ wpAnyC P md l.toArray C F Q n (listed.setIfInBounds i true) a' w') a w := by
      intro i p c listed a w hC hcl hr hB ⟨o, ho0, hK⟩
      have ho : l.toArray[i]? = some o := by simpa using ho0
      refine wpOp_mono (fun a' w' h' => ⟨h'.1, ih p (c && F i) _ a' w' (fun hcf => ?_) (hcl.set hr) hB h'.2⟩) (wpOp_of_one ho hK)
      rw [Bool.and_eq_true] at hcf
      exact h'.1 hcf.2
    intro π c listed a w hC hcl hB h
    cases π with
    | done => simp [planB] at hB
    | yes i p =>
      obtain ⟨o, v, ho0, hy, hK⟩ := h
      have ho : l.toArray[i]? = some o := by simpa using ho0
      simp only [planB, Bool.and_eq_true] at hB
      obtain ⟨⟨⟨⟨hc, hr⟩, hf⟩, hb⟩, hrest⟩ := hB
      have hr' : i ∈ Region.ready md l.toArray listed := by simpa using hr
      exact wpAnyC_first ho (Region.noSelect_spec hsel) (fun ch a w h => hQ ch _ _ w (by cases o.dst <;> rfl) h) hb n listed a w (hC hc) hcl (Region.free_spec ho hf) hr' hy (ih p c _ _ _ hC (hcl.set hr') hrest hK)
    | one i p =>
      simp only [planB, Bool.and_eq_true] at hB
      have hr : Region.ready md l.toArray listed = [i] := by simpa using hB.1
      refine ⟨fun h0 => absurd h0 (by rw [hr]; simp), fun j hj => ?_⟩
      obtain rfl : j = i := by rw [hr] at hj; simpa using hj
      exact step j p c listed a w hC hcl hj hB.2 h
    | two i p j q =>
      simp only [planB, Bool.and_eq_true] at hB
      have hr : Region.ready md l.toArray listed = [i, j] := by simpa using hB.1.1
      refine ⟨fun h0 => absurd h0 (by rw [hr]; simp), fun k hk => ?_⟩
      have hk' : k = i ∨ k = j := by rw [hr] at hk; simpa using hk
      rcases hk' with rfl | rfl
      · exact step k p c listed a w hC hcl hk hB.1.2 h.1
      · exact step k q c listed a w hC hcl hk hB.2 h.2
    | three i p j q k r =>
      simp only [planB, Bool.and_eq_true] at hB
      have hr : Region.ready md l.toArray listed = [i, j, k] := by simpa using hB.1.1.1
      refine ⟨fun h0 => absurd h0 (by rw [hr]; simp), fun m hm => ?_⟩
      have hm' : m = i ∨ m = j ∨ m = k := by rw [hr] at hm; simpa using hm
      rcases hm' with rfl | rfl | rfl
      · exact step m p c listed a w hC hcl hm hB.1.1.2 h.1
      · exact step m q c listed a w hC hcl hm hB.1.2 h.2.1
      · exact step m r c listed a w hC hcl hm hB.2 h.2.2
theorem wp_region_plan {id : Nat} {a : Act} {w : World} {l : List Oper} (C : World → Prop) (F : List Nat) (π : Plan) (hm : P.follows .mixedOrders = true) (hQ : ∀ c a a' w, a.defers = a'.defers → Q (.panic c) a w → Q (.panic c) a' w)
    (hB : (Region.noSelect l.toArray && planB .any l.toArray (fun i => F.contains i) l.length true π (Array.replicate l.length false)) = true) (hC : C w.drew) (h : wpPlan P l C (fun i => F.contains i) Q π a w.drew) : (Code.region id l.toArray true).wp P Q a w := by
  simp only [Bool.and_eq_true] at hB
  obtain ⟨hsel, hst⟩ := hB
  refine wp_region_any hm (wpAny_of_C (C := C) (F := fun i => F.contains i) _ _ _ _ ?_)
  have h1 := wpAnyC_of_plan (P := P) (Q := Q) (C := C) (md := .any) hsel hQ l.length π true (Array.replicate l.length false) a w.drew (fun _ => hC) (fun j oj _ hl => by rw [getD_replicate_false] at hl; cases hl) hst h
  have hsz : l.toArray.size = l.length := by simp
  rw [hsz]
  exact h1
end
end Go.Proofs.YthbfodmpoheahaaDoor

/-
  What right of layer 10 does: a word is turned. Conditions: by 1 to 31.
-/
namespace Go.Proofs.YthbfodmpoheahaaDoor
open Go.RowKit
open Pol (co Sm)

set_option maxHeartbeats 400000 in
theorem sh_rot (x r : Nat) (w : World) (hx : x < 4294967296) (h0 : 0 < r) (hr : r < 32) :
    Calls Tryd.prog 63 #[.int .u32 (x : Int), .int .i64 (-(r : Int))] w (fun e w' => e = .returned (.int .u32 ((tw x r : Nat) : Int)) ∧ w = w') := by
  obtain ⟨m, hm⟩ : ∃ m, 32 - r = m := ⟨_, rfl⟩
  obtain ⟨M, hM⟩ : ∃ M, 18446744073709551616 - r = M := ⟨_, rfl⟩
  obtain ⟨q, hq⟩ : ∃ q, x / 2 ^ r = q := ⟨_, rfl⟩
  obtain ⟨y, hy⟩ : ∃ y, x * 2 ^ m % 4294967296 = y := ⟨_, rfl⟩
  obtain ⟨z, hz⟩ : ∃ z, tw x r = z := ⟨_, rfl⟩
  have e0 : IntKind.u64.wrap (-(r : Int)) = (M : Int) := by rw [IntKind.wrap_u64]; omega
  have ea : bits .and .u64 (M : Int) 31 = (m : Int) := by
    have h := u64_and_nat M 31 (by omega) (by decide)
    rw [show ((31 : Nat) : Int) = 31 from rfl] at h
    rw [h, show (31 : Nat) = 2 ^ 5 - 1 from rfl, Nat.and_two_pow_sub_one_eq_mod]
    omega
  have e1 : IntKind.u64.wrap (32 - (m : Int)) = (r : Int) := by rw [IntKind.wrap_u64]; omega
  have e1' : 32 - (m : Int) = (r : Int) := by omega
  have e2 : (x : Int) / 2 ^ r = (q : Int) := by rw [← hq]; simp
  have e3 : IntKind.u32.wrap ((x : Int) * 2 ^ m) = (y : Int) := by
    rw [IntKind.wrap_u32, ← hy]
    simp
  have hqb : q < 4294967296 := by rw [← hq]; exact Nat.lt_of_le_of_lt (Nat.div_le_self _ _) hx
  have hyb : y < 4294967296 := by rw [← hy]; exact Nat.mod_lt _ (by decide)
  have e4 : bits .or .u32 (y : Int) (q : Int) = (z : Int) := by
    rw [u32_or_nat y q hyb hqb, ← hz, Nat.or_comm]
    unfold tw
    rw [hm, hq, hy]
  have hm32 : m < 32 := by omega
  rw [hz]
  clear hm hq hy hz hM
  go_enter Tryd.func63, Tryd.ntmps63
  go_wp2
  go_ret
  exact ⟨rfl, rfl⟩
set_option maxHeartbeats 400000 in
theorem sh_right (x r : Nat) (w : World) (hx : x < 4294967296) (h0 : 0 < r) (hr : r < 32) :
    Calls Tryd.prog 61 #[.int .u32 (x : Int), .int .i64 (r : Int)] w (fun e w' => e = .returned (.int .u32 ((tw x r : Nat) : Int)) ∧ w = w') := by
  have HR := Lib.hid (fun W => sh_rot x r W hx h0 hr)
  obtain ⟨z, hz⟩ : ∃ z, tw x r = z := ⟨_, rfl⟩
  rw [hz] at HR ⊢
  have e0 : wrap64 (-(r : Int)) = -(r : Int) := by unfold wrap64; omega
  clear hz
  go_enter Tryd.func61, Tryd.ntmps61
  go_wp2_with fail
  refine (HR.out _).mono ?_
  rintro e w1 ⟨rfl, rfl⟩
  go_wp2
  go_ret
  exact ⟨rfl, rfl⟩
end Go.Proofs.YthbfodmpoheahaaDoor

/-
  What mix of layer 10 does: sixty-four rounds. Conditions: the constants lie where they were laid.
-/
namespace Go.Proofs.YthbfodmpoheahaaDoor
open Go.RowKit
open Pol (co Sm)


/-- The complement of a word; what is chosen; what most have. -/
theorem not_sub {x : Nat} (h : x < 4294967296) : x ^^^ 4294967295 = 4294967295 - x := by
  apply Nat.eq_of_testBit_eq
  intro i
  have h1 := Nat.testBit_two_pow_sub_succ (n := 32) h i
  rw [show (2 : Nat) ^ 32 - (x + 1) = 4294967295 - x from by omega] at h1
  have h2 := Nat.testBit_two_pow_sub_one 32 i
  rw [show (2 : Nat) ^ 32 - 1 = 4294967295 from rfl] at h2
  rw [Nat.testBit_xor, h2, h1]
  by_cases hi : i < 32
  · simp [hi]
  · have : x.testBit i = false := Nat.testBit_lt_two_pow (Nat.lt_of_lt_of_le h (Nat.le_trans (by decide : 4294967296 ≤ 2 ^ 32) (Nat.pow_le_pow_right (by decide) (by omega))))
    simp [hi, this]
theorem ch_or {e f g : Nat} (h : e < 4294967296) : (e &&& f) ||| ((4294967295 - e) &&& g) = (e &&& f) ^^^ ((4294967295 - e) &&& g) := by
  rw [← not_sub h]
  apply Nat.eq_of_testBit_eq
  intro i
  have h2 := Nat.testBit_two_pow_sub_one 32 i
  rw [show (2 : Nat) ^ 32 - 1 = 4294967295 from rfl] at h2
  simp only [Nat.testBit_or, Nat.testBit_xor, Nat.testBit_and, h2]
  by_cases hi : i < 32
  · simp only [hi, decide_true]
    cases e.testBit i <;> cases f.testBit i <;> cases g.testBit i <;> rfl
  · have : e.testBit i = false := Nat.testBit_lt_two_pow (Nat.lt_of_lt_of_le h (Nat.le_trans (by decide : 4294967296 ≤ 2 ^ 32) (Nat.pow_le_pow_right (by decide) (by omega))))
    simp [hi, this]
theorem maj_or (a b c : Nat) : (a &&& b ||| a &&& c) ||| b &&& c = (a &&& b ^^^ a &&& c) ^^^ b &&& c := by
  apply Nat.eq_of_testBit_eq
  intro i
  simp only [Nat.testBit_or, Nat.testBit_xor, Nat.testBit_and]
  cases a.testBit i <;> cases b.testBit i <;> cases c.testBit i <;> rfl
theorem not_u32 {x : Nat} (h : x < 4294967296) : bits .xor .u32 IntKind.u32.max (x : Int) = ((4294967295 - x : Nat) : Int) := by
  have h1 := u32_xor_nat 4294967295 x (by decide) h
  rw [Nat.xor_comm, not_sub h] at h1
  exact h1
/-- 'a[i]' of an array by value, of elements of one cell. -/
theorem idx_arr {t e : TypeId} {n : Nat} (h : Tryd.prog.underlying t = some (.array n e)) (he : Tryd.prog.plainKey e = true) (hs : Tryd.prog.cellsOf e = 1) (hi' : ∃ q, Tryd.prog.info? e = some q)
    (V : Array Value) (i : Nat) (v : Value) (hi : i < n) (hv : V[i]? = some v) (W : World) : (Instr.index t (.agg V) (.int .i64 (i : Int))).run Tryd.prog W = .ok v W := by
  obtain ⟨q, hq⟩ := hi'
  have hn : (0 : Int) ≤ (i : Int) ∧ (i : Int) < (n : Int) := by omega
  simp only [Instr.index, asIntOf, Sem.run_bind, Sem.run_pure, Result.andThen_ok, run_underlying h, hn, and_self, if_true, run_sizeOf W hq, hs]
  rw [show (i : Int).toNat * 1 = i from by omega]
  exact run_part_plain W he hv

/-- Where mix's rounds stand. -/
structure MixW (WL : List Nat) (g : Nat) (w W : World) : Prop where
  x : Ext w W
  c : ∀ i, i < 64 → W.cell? ⟨g + 1, i, none⟩ = some (.int .u32 ((co WL i : Nat) : Int))
  r : W.heap[g + 1 + 1]? = some (.cells (dt 8 fun _ => 0) 60 (0, 0))
theorem MixW.start {V0 V1 : Array Value} {WL : List Nat} (w : World) (h1 : ∀ i, i < 64 → V1[i]? = some (.int .u32 ((co WL i : Nat) : Int))) (T U : TypeId) (q : Nat) :
    MixW WL w.heap.size w ((((w.alloc (.cells V0 T)).alloc (.cells V1 U)).alloc (.cells (dt 8 fun _ => 0) 60)).drewN q) := by
  refine ⟨((((Ext.refl w).alloc _).alloc _).alloc _).drewN q, fun i hi => ?_, ?_⟩
  · show (((w.alloc (.cells V0 T)).alloc (.cells V1 U)).alloc _).cell? _ = _
    have e : w.heap.size + 1 = (w.alloc (.cells V0 T)).heap.size := by simp
    rw [World.cell?_alloc_lt _ _ _ (by simp), e, cell_of_row _ _ _ _ _ _ (heap_alloc_new (w.alloc (.cells V0 T)) _)]
    exact h1 i hi
  · have e : w.heap.size + 1 + 1 = ((w.alloc (.cells V0 T)).alloc (.cells V1 U)).heap.size := by simp
    rw [e]
    exact heap_alloc_new _ _
theorem MixW.drewN {WL : List Nat} {g : Nat} {w W : World} (h : MixW WL g w W) (q : Nat) : MixW WL g w (W.drewN q) := ⟨h.x.drewN q, h.c, h.r⟩
theorem rnd_at (k w : Nat) (S : List Nat) : co (rnd k w S) 0 = (one k w S + two S) % 4294967296 ∧ co (rnd k w S) 1 = co S 0 ∧ co (rnd k w S) 2 = co S 1 ∧ co (rnd k w S) 3 = co S 2 ∧ co (rnd k w S) 4 = (co S 3 + one k w S) % 4294967296 ∧ co (rnd k w S) 5 = co S 4 ∧ co (rnd k w S) 6 = co S 5 ∧ co (rnd k w S) 7 = co S 6 := ⟨rfl, rfl, rfl, rfl, rfl, rfl, rfl, rfl⟩

set_option maxHeartbeats 3200000 in
set_option maxRecDepth 100000 in
theorem sh_mix (S WL : List Nat) (w : World) (hgl : GL w) (hS : W32 S) (hW : W32 WL) :
    Calls Tryd.prog 53 #[.agg (dt 8 (co S)), .agg (dt 64 (co WL))] w (Tells (.agg (dt 8 (co (rds KK WL S 64)))) w) := by
  obtain ⟨V0, hV0⟩ : ∃ V, dt 8 (co S) = V := ⟨_, rfl⟩
  obtain ⟨V1, hV1⟩ : ∃ V, dt 64 (co WL) = V := ⟨_, rfl⟩
  have hc := fun i (hi : i < 8) => dt_at 8 (co S) i hi
  have hc1 := fun i (hi : i < 64) => dt_at 64 (co WL) i hi
  rw [hV0] at hc ⊢
  rw [hV1] at hc1 ⊢
  have h0 := hc 0 (by decide)
  have h1 := hc 1 (by decide)
  have h2 := hc 2 (by decide)
  have h3 := hc 3 (by decide)
  have h4 := hc 4 (by decide)
  have h5 := hc 5 (by decide)
  have h6 := hc 6 (by decide)
  have h7 := hc 7 (by decide)
  have HS := Lib.hid (fun (T U : TypeId) (q : Nat) => MixW.start (V0 := V0) w hc1 T U q)
  have HK := Lib.hid (show ∀ W, Ext w W → ∃ T, W.heap[3]? = some (.cells (dt 64 (co KK)) T (0, 0)) from fun W hW => (hgl.ext hW).2)
  have HRD := Lib.hid (fun i => rds_w32 KK WL S hS i)
  have HW := Lib.hid hW
  have HWK := Lib.hid KK_w32
  have HST := Lib.hid (fun i => show rds KK WL S (i + 1) = rnd (co KK i) (co WL i) (rds KK WL S i) from rfl)
  have hz : dt 8 (fun _ => 0) = #[.int .u32 0, .int .u32 0, .int .u32 0, .int .u32 0, .int .u32 0, .int .u32 0, .int .u32 0, .int .u32 0] := rfl
  rw [hz] at HS
  have HRT := Lib.hid (fun x r W h1 h2 h3 => sh_right x r W h1 h2 h3)
  have HZ8 := Lib.hid (show rds KK WL S 0 = S from rfl)
  clear hc hc1 hgl hS hW hV0 hV1
  go_enter Tryd.func53, Tryd.ntmps53
  go_wp2
  go_quiet (fail)
  generalize nq = q0
  go_wp2
  go_quiet (fail)
  have hm := HS.out 60 76 (q0 + nq)
  rw [World.drewN_drewN]
  obtain ⟨g, hg⟩ : ∃ g, w.heap.size = g := ⟨_, rfl⟩
  rw [hg] at hm ⊢
  generalize (((w.alloc (Obj.cells V0 60)).alloc (Obj.cells V1 76)).alloc (Obj.cells #[.int .u32 0, .int .u32 0, .int .u32 0, .int .u32 0, .int .u32 0, .int .u32 0, .int .u32 0, .int .u32 0] 60)).drewN (q0 + nq) = W3 at hm ⊢
  have HM := Lib.hid hm
  obtain ⟨TK, hgk⟩ := HK.out _ hm.x
  have HGK := Lib.hid hgk
  have HIK := Lib.hid (show (Tryd.prog.info? 76).map (·.size) = some (dt 64 (co KK)).size from by rw [dt_size]; kernel_rfl)
  have HIX := Lib.hid (fun (i : Nat) (hi : i < 64) => show ∀ W, (Instr.index 76 (.agg (dt 64 (co KK))) (.int .i64 (i : Int))).run Tryd.prog W = .ok (.int .u32 ((co KK i : Nat) : Int)) W from fun W => idx_arr Tryd.underlying76 (by kernel_rfl) (by kernel_rfl) ⟨_, rfl⟩ _ i _ hi (dt_at 64 _ i hi) W)
  have HG := Lib.hid hg
  clear hm hgk h0 h1 h2 h3 h4 h5 h6 h7 hz hg
  generalize hVK : dt 64 (co KK) = VK at HGK HIK HIX
  clear hVK HS HK
  go_wp2_with (with_reducible refine wpList_load_row rfl 76 (.global 3) rfl 3 rfl TK VK (0, 0) _ HGK.out Tryd.underlying76 rfl HIK.out ?_)
  go_loopg [5, 6, 7, 8, 9, 10, 11, 12, 36] 64 (fun gk s5 s6 s7 s8 s9 s10 s11 s12 s36 wx => ∃ i q : Nat, i + gk = 64 ∧ s36 = .int .i64 (i : Int) ∧ s5 = .int .u32 ((co (rds KK WL S i) 0 : Nat) : Int) ∧ s6 = .int .u32 ((co (rds KK WL S i) 1 : Nat) : Int) ∧ s7 = .int .u32 ((co (rds KK WL S i) 2 : Nat) : Int) ∧ s8 = .int .u32 ((co (rds KK WL S i) 3 : Nat) : Int) ∧ s9 = .int .u32 ((co (rds KK WL S i) 4 : Nat) : Int) ∧ s10 = .int .u32 ((co (rds KK WL S i) 5 : Nat) : Int) ∧ s11 = .int .u32 ((co (rds KK WL S i) 6 : Nat) : Int) ∧ s12 = .int .u32 ((co (rds KK WL S i) 7 : Nat) : Int) ∧ wx = W3.drewN q)
  case atStart => exact ⟨0, 0, by omega, rfl, by rw [HZ8.out], by rw [HZ8.out], by rw [HZ8.out], by rw [HZ8.out], by rw [HZ8.out], by rw [HZ8.out], by rw [HZ8.out], by rw [HZ8.out], rfl⟩
  case round =>
    obtain ⟨i, q, hig, rfl, rfl, rfl, rfl, rfl, rfl, rfl, rfl, rfl, rfl⟩ := hrel
    cases gk with
    | zero =>
      obtain rfl : i = 64 := by omega
      clear hig HIX HIK HGK HRT HST HWK HW HRD
      have HMQ := Lib.hid (HM.out.drewN q)
      have HR0 := Lib.hid HMQ.out.r
      generalize W3.drewN q = W4 at HMQ HR0 ⊢
      obtain ⟨R, hR⟩ : ∃ R, rds KK WL S 64 = R := ⟨_, rfl⟩
      have HIN := Lib.hid (show (Tryd.prog.info? 60).map (·.size) = some (dt 8 (co R)).size from by rw [dt_size]; kernel_rfl)
      have HSZ := Lib.hid (show (dt 8 fun _ => 0).size = (dt 8 (co R)).size from by rw [dt_size, dt_size])
      have HON := Lib.hid (dt_one 8 (co R))
      have HG3 := Lib.hid (setRow_heap W4 (g + 1 + 1) _ (dt 8 (co R)) _ _ HR0.out)
      have HX3 := Lib.hid (HMQ.out.x.setRow (g := g + 1 + 1) (by rw [HG.out]; omega) (dt 8 (co R)))
      have HE := Lib.hid (show Value.agg (dt 8 (co R)) = .agg #[.int .u32 ((co R 0 : Nat) : Int), .int .u32 ((co R 1 : Nat) : Int), .int .u32 ((co R 2 : Nat) : Int), .int .u32 ((co R 3 : Nat) : Int), .int .u32 ((co R 4 : Nat) : Int), .int .u32 ((co R 5 : Nat) : Int), .int .u32 ((co R 6 : Nat) : Int), .int .u32 ((co R 7 : Nat) : Int)] from rfl)
      have HVE := Lib.hid (show Value.agg (dt 8 (co R)) = Value.agg (dt 8 (co (rds KK WL S 64))) from by rw [hR])
      rw [hR]
      generalize dt 8 (co R) = V at HIN HSZ HON HG3 HX3 HE HVE
      generalize hZ : dt 8 (fun _ => 0) = Z at HR0 HSZ
      clear hZ hR HM HZ8
      go_wp2_with (refine wpList_store_all rfl 60 (.tmp 4) (.tmp 108) rfl (g + 1 + 1) Z V rfl HE.out.symm HR0.out HIN.out HSZ.out HON.out ?_)
      exact ⟨rfl, .agg V, results_cell_row Tryd.results53 _ _ (g + 1 + 1) 60 V (0, 0) _ rfl HG3.out Tryd.underlying60 rfl HIN.out, by rw [HVE.out], HX3.out⟩
    | succ gk =>
      have hi : i < 64 := by omega
      have hiI : (i : Int) < 64 := by omega
      have HR := Lib.hid (HRD.out i)
      have HN := Lib.hid (HST.out i)
      have hix := HIX.out i hi
      have hcw := (HM.out.drewN q).c i hi
      obtain ⟨T, hT⟩ : ∃ T, rds KK WL S i = T := ⟨_, rfl⟩
      have hwb := HW.out.at i
      have hkb := HWK.out.at i
      rw [hT] at HR HN ⊢
      clear hT
      obtain ⟨kk, hkk⟩ : ∃ x, co KK i = x := ⟨_, rfl⟩
      obtain ⟨ww, hww⟩ : ∃ x, co WL i = x := ⟨_, rfl⟩
      rw [hkk] at hix hkb HN
      rw [hww] at hcw hwb HN
      obtain ⟨na, hna⟩ : ∃ x, (one kk ww T + two T) % 4294967296 = x := ⟨_, rfl⟩
      obtain ⟨ne, hne⟩ : ∃ x, (co T 3 + one kk ww T) % 4294967296 = x := ⟨_, rfl⟩
      have hrn := rnd_at kk ww T
      rw [hna, hne, ← HN.out] at hrn
      unfold one two at hna
      unfold one at hne
      have ba := HR.out.at 0
      have bb := HR.out.at 1
      have bc := HR.out.at 2
      have bd := HR.out.at 3
      have be := HR.out.at 4
      have bf := HR.out.at 5
      have bg := HR.out.at 6
      have bh := HR.out.at 7
      have HRN := Lib.hid hrn
      clear hrn
      generalize co T 0 = a at *
      generalize co T 1 = b at *
      generalize co T 2 = c at *
      generalize co T 3 = d at *
      generalize co T 4 = e at *
      generalize co T 5 = f at *
      generalize co T 6 = gg at *
      generalize co T 7 = h at *
      obtain ⟨n1, hn1⟩ : ∃ x, 4294967295 - e = x := ⟨_, rfl⟩
      have bn1 : n1 < 4294967296 := by omega
      have en : bits .xor .u32 IntKind.u32.max (e : Int) = (n1 : Int) := by rw [not_u32 be, hn1]
      obtain ⟨x1, hx1⟩ : ∃ x, e &&& f = x := ⟨_, rfl⟩
      obtain ⟨x2, hx2⟩ : ∃ x, n1 &&& gg = x := ⟨_, rfl⟩
      obtain ⟨ch, hch⟩ : ∃ x, x1 ||| x2 = x := ⟨_, rfl⟩
      have bx1 : x1 < 4294967296 := by rw [← hx1]; exact Nat.lt_of_le_of_lt Nat.and_le_left be
      have bx2 : x2 < 4294967296 := by rw [← hx2]; exact Nat.lt_of_le_of_lt Nat.and_le_left bn1
      have bch : ch < 4294967296 := by rw [← hch]; exact Nat.or_lt_two_pow (n := 32) bx1 bx2
      have e1 : bits .and .u32 (e : Int) (f : Int) = (x1 : Int) := by rw [u32_and_nat e f be bf, hx1]
      have e2 : bits .and .u32 (n1 : Int) (gg : Int) = (x2 : Int) := by rw [u32_and_nat n1 gg bn1 bg, hx2]
      have e3 : bits .or .u32 (x1 : Int) (x2 : Int) = (ch : Int) := by rw [u32_or_nat x1 x2 bx1 bx2, hch]
      have hcx : x1 ^^^ x2 = ch := by rw [← hch, ← hx1, ← hx2, ← hn1]; exact (ch_or be).symm
      obtain ⟨y1, hy1⟩ : ∃ x, a &&& b = x := ⟨_, rfl⟩
      obtain ⟨y2, hy2⟩ : ∃ x, a &&& c = x := ⟨_, rfl⟩
      obtain ⟨y3, hy3⟩ : ∃ x, y1 ||| y2 = x := ⟨_, rfl⟩
      obtain ⟨y4, hy4⟩ : ∃ x, b &&& c = x := ⟨_, rfl⟩
      obtain ⟨mj, hmj⟩ : ∃ x, y3 ||| y4 = x := ⟨_, rfl⟩
      have by1 : y1 < 4294967296 := by rw [← hy1]; exact Nat.lt_of_le_of_lt Nat.and_le_left ba
      have by2 : y2 < 4294967296 := by rw [← hy2]; exact Nat.lt_of_le_of_lt Nat.and_le_left ba
      have by3 : y3 < 4294967296 := by rw [← hy3]; exact Nat.or_lt_two_pow (n := 32) by1 by2
      have by4 : y4 < 4294967296 := by rw [← hy4]; exact Nat.lt_of_le_of_lt Nat.and_le_left bb
      have bmj : mj < 4294967296 := by rw [← hmj]; exact Nat.or_lt_two_pow (n := 32) by3 by4
      have f1 : bits .and .u32 (a : Int) (b : Int) = (y1 : Int) := by rw [u32_and_nat a b ba bb, hy1]
      have f2 : bits .and .u32 (a : Int) (c : Int) = (y2 : Int) := by rw [u32_and_nat a c ba bc, hy2]
      have f3 : bits .or .u32 (y1 : Int) (y2 : Int) = (y3 : Int) := by rw [u32_or_nat y1 y2 by1 by2, hy3]
      have f4 : bits .and .u32 (b : Int) (c : Int) = (y4 : Int) := by rw [u32_and_nat b c bb bc, hy4]
      have f5 : bits .or .u32 (y3 : Int) (y4 : Int) = (mj : Int) := by rw [u32_or_nat y3 y4 by3 by4, hmj]
      have hmx : y1 ^^^ y2 ^^^ y4 = mj := by rw [← hmj, ← hy3, ← hy1, ← hy2, ← hy4]; exact (maj_or a b c).symm
      rw [hn1, hx1, hx2, hcx] at hna hne
      rw [hy1, hy2, hy4, hmx] at hna
      clear hn1 hx1 hx2 hch hy1 hy2 hy3 hy4 hmj hcx hmx
      have b6 := tw_lt (n := 6) be
      have b11 := tw_lt (n := 11) be
      have b25 := tw_lt (n := 25) be
      have b2 := tw_lt (n := 2) ba
      have b13 := tw_lt (n := 13) ba
      have b22 := tw_lt (n := 22) ba
      have HT6 := Lib.hid (fun W => show Calls Tryd.prog 61 #[.int .u32 (e : Int), .int .i64 6] W (fun e' w' => e' = .returned (.int .u32 ((tw e 6 : Nat) : Int)) ∧ W = w') from HRT.out e 6 W be (by decide) (by decide))
      have HT11 := Lib.hid (fun W => show Calls Tryd.prog 61 #[.int .u32 (e : Int), .int .i64 11] W (fun e' w' => e' = .returned (.int .u32 ((tw e 11 : Nat) : Int)) ∧ W = w') from HRT.out e 11 W be (by decide) (by decide))
      have HT25 := Lib.hid (fun W => show Calls Tryd.prog 61 #[.int .u32 (e : Int), .int .i64 25] W (fun e' w' => e' = .returned (.int .u32 ((tw e 25 : Nat) : Int)) ∧ W = w') from HRT.out e 25 W be (by decide) (by decide))
      have HT2 := Lib.hid (fun W => show Calls Tryd.prog 61 #[.int .u32 (a : Int), .int .i64 2] W (fun e' w' => e' = .returned (.int .u32 ((tw a 2 : Nat) : Int)) ∧ W = w') from HRT.out a 2 W ba (by decide) (by decide))
      have HT13 := Lib.hid (fun W => show Calls Tryd.prog 61 #[.int .u32 (a : Int), .int .i64 13] W (fun e' w' => e' = .returned (.int .u32 ((tw a 13 : Nat) : Int)) ∧ W = w') from HRT.out a 13 W ba (by decide) (by decide))
      have HT22 := Lib.hid (fun W => show Calls Tryd.prog 61 #[.int .u32 (a : Int), .int .i64 22] W (fun e' w' => e' = .returned (.int .u32 ((tw a 22 : Nat) : Int)) ∧ W = w') from HRT.out a 22 W ba (by decide) (by decide))
      generalize tw e 6 = r6 at *
      generalize tw e 11 = r11 at *
      generalize tw e 25 = r25 at *
      generalize tw a 2 = r2 at *
      generalize tw a 13 = r13 at *
      generalize tw a 22 = r22 at *
      obtain ⟨t1, ht1⟩ : ∃ x, r6 ^^^ r11 = x := ⟨_, rfl⟩
      obtain ⟨t2, ht2⟩ : ∃ x, t1 ^^^ r25 = x := ⟨_, rfl⟩
      obtain ⟨v1, hv1⟩ : ∃ x, r2 ^^^ r13 = x := ⟨_, rfl⟩
      obtain ⟨v2, hv2⟩ : ∃ x, v1 ^^^ r22 = x := ⟨_, rfl⟩
      have bt1 : t1 < 4294967296 := by rw [← ht1]; exact Nat.xor_lt_two_pow (n := 32) b6 b11
      have bt2 : t2 < 4294967296 := by rw [← ht2]; exact Nat.xor_lt_two_pow (n := 32) bt1 b25
      have bv1 : v1 < 4294967296 := by rw [← hv1]; exact Nat.xor_lt_two_pow (n := 32) b2 b13
      have bv2 : v2 < 4294967296 := by rw [← hv2]; exact Nat.xor_lt_two_pow (n := 32) bv1 b22
      have g1 : bits .xor .u32 (r6 : Int) (r11 : Int) = (t1 : Int) := by rw [u32_xor_nat r6 r11 b6 b11, ht1]
      have g2 : bits .xor .u32 (t1 : Int) (r25 : Int) = (t2 : Int) := by rw [u32_xor_nat t1 r25 bt1 b25, ht2]
      have g3 : bits .xor .u32 (r2 : Int) (r13 : Int) = (v1 : Int) := by rw [u32_xor_nat r2 r13 b2 b13, hv1]
      have g4 : bits .xor .u32 (v1 : Int) (r22 : Int) = (v2 : Int) := by rw [u32_xor_nat v1 r22 bv1 b22, hv2]
      rw [ht1, ht2] at hna hne
      rw [hv1, hv2] at hna
      clear ht1 ht2 hv1 hv2
      obtain ⟨u1, hu1⟩ : ∃ x, (h + t2) % 4294967296 = x := ⟨_, rfl⟩
      obtain ⟨u2, hu2⟩ : ∃ x, (u1 + ch) % 4294967296 = x := ⟨_, rfl⟩
      obtain ⟨u3, hu3⟩ : ∃ x, (u2 + kk) % 4294967296 = x := ⟨_, rfl⟩
      obtain ⟨u4, hu4⟩ : ∃ x, (u3 + ww) % 4294967296 = x := ⟨_, rfl⟩
      obtain ⟨u5, hu5⟩ : ∃ x, (v2 + mj) % 4294967296 = x := ⟨_, rfl⟩
      have w1 : IntKind.u32.wrap ((h : Int) + (t2 : Int)) = (u1 : Int) := by rw [IntKind.wrap_u32]; omega
      have w2 : IntKind.u32.wrap ((u1 : Int) + (ch : Int)) = (u2 : Int) := by rw [IntKind.wrap_u32]; omega
      have w3 : IntKind.u32.wrap ((u2 : Int) + (kk : Int)) = (u3 : Int) := by rw [IntKind.wrap_u32]; omega
      have w4 : IntKind.u32.wrap ((u3 : Int) + (ww : Int)) = (u4 : Int) := by rw [IntKind.wrap_u32]; omega
      have w5 : IntKind.u32.wrap ((v2 : Int) + (mj : Int)) = (u5 : Int) := by rw [IntKind.wrap_u32]; omega
      have eo : (h + t2 + ch + kk + ww) % 4294967296 = u4 := by omega
      rw [eo, hu5] at hna
      rw [eo] at hne
      have w6 : IntKind.u32.wrap ((u4 : Int) + (u5 : Int)) = (na : Int) := by rw [IntKind.wrap_u32]; omega
      have w7 : IntKind.u32.wrap ((d : Int) + (u4 : Int)) = (ne : Int) := by rw [IntKind.wrap_u32]; omega
      have bu1 : u1 < 4294967296 := by omega
      have bu2 : u2 < 4294967296 := by omega
      have bu3 : u3 < 4294967296 := by omega
      have bu4 : u4 < 4294967296 := by omega
      have bu5 : u5 < 4294967296 := by omega
      have HIG := Lib.hid hig
      clear hna hne hu1 hu2 hu3 hu4 hu5 eo hig hkk hww
      generalize hWQ : W3.drewN q = Wq at hcw ⊢
      have HWQ := Lib.hid hWQ
      clear hWQ
      go_wp2
      go_quiet (first | (go_at_call 61; with_reducible exact quiet_same (HT6.out _)) | (go_at_call 61; with_reducible exact quiet_same (HT11.out _)) | (go_at_call 61; with_reducible exact quiet_same (HT25.out _)))
      go_wp2_with fail
      refine (HT2.out _).mono ?_
      rintro e' w' ⟨rfl, rfl⟩
      go_wp2_with fail
      refine (HT13.out _).mono ?_
      rintro e' w' ⟨rfl, rfl⟩
      go_wp2_with fail
      refine (HT22.out _).mono ?_
      rintro e' w' ⟨rfl, rfl⟩
      go_wp2
      go_roundg gk
      case measure => omega
      case rel => exact ⟨i + 1, q + nq, by have := HIG.out; omega, by go_num, by rw [HRN.out.1], by rw [HRN.out.2.1], by rw [HRN.out.2.2.1], by rw [HRN.out.2.2.2.1], by rw [HRN.out.2.2.2.2.1], by rw [HRN.out.2.2.2.2.2.1], by rw [HRN.out.2.2.2.2.2.2.1], by rw [HRN.out.2.2.2.2.2.2.2], by rw [← HWQ.out, World.drewN_drewN]⟩
end Go.Proofs.YthbfodmpoheahaaDoor

/-
  What schedule of layer 10 does: a block's sixty-four words. Conditions: none.
-/
namespace Go.Proofs.YthbfodmpoheahaaDoor
open Go.RowKit
open Pol (co Sm)

/-- The first m bytes of a word. -/
def pw (B : Nat → Nat) (j : Nat) : Nat → Nat
  | 0 => 0
  | m + 1 => pw B j m * 256 + B (4 * j + m)
theorem pw_lt {B : Nat → Nat} (hB : ∀ i, B i < 256) (j : Nat) : ∀ m, pw B j m < 256 ^ m
  | 0 => Nat.one_pos
  | m + 1 => by
    have := pw_lt hB j m
    have := hB (4 * j + m)
    rw [pw, Nat.pow_succ]
    omega
/-- The words, when k bytes are in. -/
def pws (B : Nat → Nat) (k j : Nat) : Nat := pw B j (min 4 (k - 4 * j))
theorem pws_zero (B : Nat → Nat) (j : Nat) : pws B 0 j = 0 := by unfold pws; rw [show min 4 (0 - 4 * j) = 0 by omega]; rfl
theorem pws_step (B : Nat → Nat) (k q j : Nat) (hq : k / 4 = q) : upd (pws B k) q (pws B k q * 256 + B k) j = pws B (k + 1) j := by
  unfold upd
  by_cases e : j = q
  · subst e
    rw [if_pos rfl]
    unfold pws
    rw [show min 4 (k - 4 * j) = k - 4 * j by omega, show min 4 (k + 1 - 4 * j) = k - 4 * j + 1 by omega, pw, show 4 * j + (k - 4 * j) = k by omega]
  · rw [if_neg e]
    unfold pws
    by_cases h : j < q
    · rw [show min 4 (k - 4 * j) = 4 by omega, show min 4 (k + 1 - 4 * j) = 4 by omega]
    · rw [show min 4 (k - 4 * j) = 0 by omega, show min 4 (k + 1 - 4 * j) = 0 by omega]
theorem pws_lt {B : Nat → Nat} (hB : ∀ i, B i < 256) (k q : Nat) (hq : k / 4 = q) : pws B k q < 16777216 := by
  unfold pws
  have h := pw_lt hB q (min 4 (k - 4 * q))
  exact Nat.lt_of_lt_of_le h (Nat.le_trans (Nat.pow_le_pow_right (by decide) (show min 4 (k - 4 * q) ≤ 3 by omega)) (by decide))
def wof (B : Nat → Nat) (j : Nat) : Nat := B (4 * j) * 16777216 + B (4 * j + 1) * 65536 + B (4 * j + 2) * 256 + B (4 * j + 3)
theorem pw_four (B : Nat → Nat) (j : Nat) : pw B j 4 = wof B j := by
  simp only [pw, wof, Nat.zero_mul, Nat.zero_add, Nat.add_zero]
  omega
theorem wof_lt {B : Nat → Nat} (hB : ∀ i, B i < 256) (j : Nat) : wof B j < 4294967296 := by
  have h0 := hB (4 * j)
  have h1 := hB (4 * j + 1)
  have h2 := hB (4 * j + 2)
  have h3 := hB (4 * j + 3)
  unfold wof
  omega
theorem or_byte (x y : Nat) (hy : y < 256) : x * 256 ||| y = x * 256 + y := by
  have h := Nat.two_pow_add_eq_or_of_lt (i := 8) (b := y) hy x
  rw [Nat.mul_comm x, ← show (2 : Nat) ^ 8 = 256 from rfl, ← h]
theorem wl_end (F : Nat → Nat) (j x : Nat) : co (wl F j ++ [x]) j = x := by unfold co; rw [List.getElem?_append_right (by rw [wl_len]; exact Nat.le_refl _), wl_len, Nat.sub_self]; rfl
theorem wl_in (F : Nat → Nat) (j x i : Nat) (h : i < j) : co (wl F j ++ [x]) i = co (wl F j) i := by unfold co; rw [List.getElem?_append_left (by rw [wl_len]; exact h)]
/-- The words grow at their end alone. -/
theorem wl_pre (F : Nat → Nat) (j : Nat) : ∀ m, j < m → co (wl F m) j = co (wl F (j + 1)) j
  | 0, h => by omega
  | m + 1, h => by
    by_cases e : j = m
    · rw [e]
    · rw [wl, wl_in F m _ j (by omega)]
      exact wl_pre F j m (by omega)
theorem wl_at (F : Nat → Nat) (j m : Nat) (h : j < m) (hm : m ≤ 64) : co (wl F m) j = co (wl F 64) j := by rw [wl_pre F j m h, wl_pre F j 64 (by omega)]
theorem wl_low (F : Nat → Nat) (j : Nat) (h : j < 16) : co (wl F 64) j = F j := by
  rw [wl_pre F j 64 (by omega), wl, wl_end, if_pos h]
theorem wl_high (F : Nat → Nat) (j : Nat) (h : 16 ≤ j) (h64 : j < 64) : co (wl F 64) j = (co (wl F 64) (j - 16) + co (wl F 64) (j - 7) + sg0 (co (wl F 64) (j - 15)) + sg1 (co (wl F 64) (j - 2))) % 4294967296 := by
  rw [wl_pre F j 64 (by omega), wl, wl_end, if_neg (by omega)]
  show wnx (wl F j) j = _
  unfold wnx
  rw [wl_at F (j - 16) j (by omega) (by omega), wl_at F (j - 7) j (by omega) (by omega), wl_at F (j - 15) j (by omega) (by omega), wl_at F (j - 2) j (by omega) (by omega)]
theorem zero_words : (∀ w, (zeroValue 76).run Tryd.prog w = .ok (.agg (dt 64 fun _ => 0)) w) ∧ (Tryd.prog.info? 76).map (·.size) = some 64 := by
  rw [dt_zero]
  exact zero_of_info (by kernel_rfl)
theorem store_dt {n : Nat} {T : TypeId} (w : World) (g : Nat) (f f' : Nat → Nat) (hg : WBlk T n w g f) : (storeCells ⟨g, 0, none⟩ (dt n f').toList).run Tryd.prog w = .ok () (w.setRow g (dt n f')) := by
  have h := run_storeCells_from (P := Tryd.prog) g T (dt n f').toList 0 (dt n f) w hg (by simp [dt_size]) (fun v hv => (Array.all_eq_true_iff_forall_mem.1 (dt_one n f')) v (by simpa using hv))
  simpa using h

/-- Where schedule's loops stand: the block's bytes behind g, the result, the words. -/
structure SchW (B f : Nat → Nat) (g : Nat) (w W : World) : Prop where
  x : Ext w W
  b : W.heap[g]? = some (.cells (bt 64 B) 78 (0, 0))
  r : WBlk 76 64 W (g + 1) (fun _ => 0)
  ws : WBlk 76 64 W (g + 1 + 1) f
theorem SchW.start (B : Nat → Nat) (w : World) : SchW B (fun _ => 0) w.heap.size w (((w.alloc (.cells (bt 64 B) 78)).alloc (.cells (dt 64 fun _ => 0) 76)).alloc (.cells (dt 64 fun _ => 0) 76)) := by
  have e1 : w.heap.size + 1 = (w.alloc (.cells (bt 64 B) 78)).heap.size := by simp
  have e2 : w.heap.size + 1 + 1 = ((w.alloc (.cells (bt 64 B) 78)).alloc (.cells (dt 64 fun _ => 0) 76)).heap.size := by simp
  refine ⟨(((Ext.refl w).alloc _).alloc _).alloc _, ?_, ?_, ?_⟩
  · rw [heap_alloc_old _ _ (by simp; omega), heap_alloc_old _ _ (by simp)]
    exact heap_alloc_new w _
  · unfold WBlk
    rw [heap_alloc_old _ _ (by rw [e1]; simp), e1]
    exact heap_alloc_new _ _
  · rw [e2]
    exact WBlk.new _ _
theorem SchW.store {B f : Nat → Nat} {g : Nat} {w W : World} (h : SchW B f g w W) (hg : w.heap.size = g) (j v : Nat) : SchW B (upd f j v) g w (W.setCell ⟨g + 1 + 1, j, none⟩ (.int .u32 (v : Int))) :=
  ⟨h.x.setCell (by rw [hg]; show g ≤ g + 1 + 1; omega) _, (heap_setCell_other W ⟨g + 1 + 1, j, none⟩ g _ (by simp; omega)).trans h.b, (heap_setCell_other W ⟨g + 1 + 1, j, none⟩ (g + 1) _ (by simp)).trans h.r, h.ws.store j v⟩
theorem SchW.congr {B f f' : Nat → Nat} {g : Nat} {w W : World} (h : SchW B f g w W) (hf : ∀ i, i < 64 → f i = f' i) : SchW B f' g w W := ⟨h.x, h.b, h.r, h.ws.congr hf⟩
theorem SchW.drewN {B f : Nat → Nat} {g : Nat} {w W : World} (h : SchW B f g w W) (q : Nat) : SchW B f g w (W.drewN q) := ⟨h.x.drewN q, h.b, h.r, h.ws⟩
theorem info_words (f : Nat → Nat) : (Tryd.prog.info? 76).map (·.size) = some (dt 64 f).size := by rw [dt_size]; exact zero_words.2
theorem info_block (f : Nat → Nat) : (Tryd.prog.info? 78).map (·.size) = some (bt 64 f).size := by rw [bt_size]; kernel_rfl

set_option maxHeartbeats 3200000 in
set_option maxRecDepth 100000 in
theorem sh_schedule (B : Nat → Nat) (w : World) (hB : ∀ i, B i < 256) :
    Calls Tryd.prog 54 #[.agg (bt 64 B)] w (Tells (.agg (dt 64 (co (wl (wof B) 64)))) w) := by
  obtain ⟨g, hg⟩ : ∃ g, w.heap.size = g := ⟨_, rfl⟩
  have HG := Lib.hid hg
  have hst := SchW.start B w
  have HB := Lib.hid hB
  have HIX := Lib.hid (fun (i : Nat) (hi : i < 64) => show ∀ W, (Instr.index 78 (.agg (bt 64 B)) (.int .i64 (i : Int))).run Tryd.prog W = .ok (.int .u8 ((B i : Nat) : Int)) W from fun W => idx_arr Tryd.underlying78 (by kernel_rfl) (by kernel_rfl) ⟨_, rfl⟩ _ i _ hi (bt_at 64 B i hi) W)
  have HIB := Lib.hid (info_block B)
  have hz := zero_words.1
  have hzs : (dt 64 fun _ => 0).size = 64 := dt_size _ _
  have hzo := dt_one 64 (fun _ => 0)
  have hs2 := store_dt (n := 64) (T := 76) _ _ _ (fun _ => 0) hst.ws
  rw [setRow_same _ _ _ _ hst.ws] at hs2
  have HBB := Lib.hid hst.b
  rw [hg] at HBB hst
  have HST := Lib.hid hst
  clear hst hB
  generalize hVB : bt 64 B = VB at *
  generalize hZ : (dt 64 fun _ => 0) = Z at *
  clear hVB hg
  go_enter Tryd.func54, Tryd.ntmps54
  go_wp2_with (with_reducible refine wpList_load_row rfl 78 (.tmp 1) rfl w.heap.size rfl 78 VB (0, 0) _ (by rw [HG.out]; exact HBB.out) Tryd.underlying78 rfl HIB.out ?_)
  rw [HG.out]
  rw [HG.out] at hs2
  generalize ((w.alloc (Obj.cells VB 78)).alloc (Obj.cells Z 76)).alloc (Obj.cells Z 76) = W3 at HST
  have HIZ := Lib.hid (show Z.size = 64 from hzs)
  have HZ := Lib.hid hZ
  clear hz hzs hzo hs2 hZ
  go_loopg [11] 64 (fun gk s11 wx => ∃ k : Nat, k + gk = 64 ∧ s11 = .int .i64 (k : Int) ∧ SchW B (pws B k) g w wx)
  case atStart => exact ⟨0, by omega, rfl, HST.out.congr (fun j _ => (pws_zero B j).symm)⟩
  case round =>
    obtain ⟨k, hkg, rfl, hw⟩ := hrel
    have HW := Lib.hid hw
    have HKG := Lib.hid hkg
    clear hw
    cases gk with
    | zero =>
      obtain rfl : k = 64 := by omega
      have HF := Lib.hid (HW.out.congr (f' := fun j => if j < 16 then co (wl (wof B) 64) j else 0) (fun j hj => by
        unfold pws
        by_cases h : j < 16
        · rw [if_pos h, show min 4 (64 - 4 * j) = 4 by omega, pw_four, wl_low _ j h]
        · rw [if_neg h, show min 4 (64 - 4 * j) = 0 by omega]; rfl))
      have HWH := Lib.hid (fun j h h64 => wl_high (wof B) j h h64)
      have HWB := Lib.hid (fun j => (wl_w32 (wof B) (wof_lt HB.out) 64).at j)
      have HRT := Lib.hid (fun x r W h1 h2 h3 => sh_right x r W h1 h2 h3)
      clear HW HIX HB HST HBB hkg
      generalize wl (wof B) 64 = L at *
      go_wp2_with fail
      go_loopg [6] 48 (fun gk s6 wx => ∃ i : Nat, i + gk = 64 ∧ 16 ≤ i ∧ s6 = .int .i64 (i : Int) ∧ SchW B (fun j => if j < i then co L j else 0) g w wx)
      case atStart => exact ⟨16, by omega, by omega, rfl, HF.out⟩
      case round =>
        obtain ⟨i, hig, hi16, rfl, hw⟩ := hrel
        have HW := Lib.hid hw
        have HIG := Lib.hid hig
        clear hw
        cases gk with
        | zero =>
          obtain rfl : i = 64 := by omega
          have hb : WBlk 76 64 wr (g + 1 + 1) (co L) := (HW.out.congr (fun j hj => if_pos hj)).ws
          have hr := HW.out.r
          unfold WBlk at hb hr
          rw [HZ.out] at hr
          have HR0 := Lib.hid hr
          have HBL := Lib.hid hb
          have HIN := Lib.hid (info_words (co L))
          have HSZ := Lib.hid (show Z.size = (dt 64 (co L)).size from by rw [HIZ.out, dt_size])
          have HON := Lib.hid (dt_one 64 (co L))
          have HG3 := Lib.hid (setRow_heap wr (g + 1) _ (dt 64 (co L)) _ _ hr)
          have HX3 := Lib.hid (HW.out.x.setRow (g := g + 1) (by rw [HG.out]; omega) (dt 64 (co L)))
          have HVE := Lib.hid (show Value.agg (dt 64 (co L)) = Value.agg (dt 64 (co L)) from rfl)
          generalize dt 64 (co L) = V at *
          clear hb hr hig
          go_wp2_with (first | (with_reducible refine wpList_load_row rfl 76 (.tmp 3) rfl (g + 1 + 1) rfl 76 V (0, 0) _ HBL.out Tryd.underlying76 rfl HIN.out ?_) | (with_reducible refine wpList_store_all rfl 76 (.tmp 2) (.tmp 70) rfl (g + 1) Z V rfl rfl HR0.out HIN.out HSZ.out HON.out ?_))
          exact ⟨rfl, .agg V, results_cell_row Tryd.results54 _ _ (g + 1) 76 V (0, 0) _ rfl HG3.out Tryd.underlying76 rfl HIN.out, rfl, HX3.out⟩
        | succ gk =>
          have hi : i < 64 := by omega
          have hiI : (i : Int) < 64 := by omega
          have HN := Lib.hid (fun q => ((HW.out.drewN q).store HG.out i (co L i)).congr (f' := fun j => if j < i + 1 then co L j else 0) (fun j _ => by
            unfold upd
            by_cases h : j = i
            · subst h; rw [if_pos rfl, if_pos (by omega)]
            · rw [if_neg h]
              show (if j < i then co L j else 0) = if j < i + 1 then co L j else 0
              by_cases h2 : j < i
              · rw [if_pos h2, if_pos (by omega)]
              · rw [if_neg h2, if_neg (by omega)]))
          obtain ⟨p16, hp16⟩ : ∃ p, i - 16 = p := ⟨_, rfl⟩
          obtain ⟨p15, hp15⟩ : ∃ p, i - 15 = p := ⟨_, rfl⟩
          obtain ⟨p7, hp7⟩ : ∃ p, i - 7 = p := ⟨_, rfl⟩
          obtain ⟨p2, hp2⟩ : ∃ p, i - 2 = p := ⟨_, rfl⟩
          have hwh := HWH.out i hi16 hi
          rw [hp16, hp15, hp7, hp2] at hwh
          have c16 := HW.out.ws.cell p16 (by omega)
          rw [if_pos (by omega)] at c16
          have c15 := HW.out.ws.cell p15 (by omega)
          rw [if_pos (by omega)] at c15
          have c7 := HW.out.ws.cell p7 (by omega)
          rw [if_pos (by omega)] at c7
          have c2 := HW.out.ws.cell p2 (by omega)
          rw [if_pos (by omega)] at c2
          have b16 := HWB.out p16
          have b15 := HWB.out p15
          have b7 := HWB.out p7
          have b2 := HWB.out p2
          have hci := HW.out.ws.cell i hi
          have hfz := HW.out.ws.frozen i
          rw [if_neg (by omega)] at hci
          have k16 : (p16 : Int) < 64 := by omega
          have k15 : (p15 : Int) < 64 := by omega
          have k7 : (p7 : Int) < 64 := by omega
          have k2 : (p2 : Int) < 64 := by omega
          have m16 : wrap64 ((i : Int) - 16) = (p16 : Int) := by unfold wrap64; omega
          have m15 : wrap64 ((i : Int) - 15) = (p15 : Int) := by unfold wrap64; omega
          have m7 : wrap64 ((i : Int) - 7) = (p7 : Int) := by unfold wrap64; omega
          have m2 : wrap64 ((i : Int) - 2) = (p2 : Int) := by unfold wrap64; omega
          have W16 : IntKind.i64.wrap (p16 : Int) = (p16 : Int) := IntWalk.i64_in _ (by omega)
          have W7 : IntKind.i64.wrap (p7 : Int) = (p7 : Int) := IntWalk.i64_in _ (by omega)
          have M16 : (i : Int) - 16 = (p16 : Int) := by omega
          have M15 : (i : Int) - 15 = (p15 : Int) := by omega
          have M7 : (i : Int) - 7 = (p7 : Int) := by omega
          have M2 : (i : Int) - 2 = (p2 : Int) := by omega
          obtain ⟨v, hv⟩ : ∃ v, co L i = v := ⟨_, rfl⟩
          rw [hv] at hwh HN
          generalize co L p16 = a16 at *
          generalize co L p15 = a15 at *
          generalize co L p7 = a7 at *
          generalize co L p2 = a2 at *
          unfold sg0 sg1 at hwh
          clear hp16 hp15 hp7 hp2 hv hig
          have b7' := tw_lt (n := 7) b15
          have b18 := tw_lt (n := 18) b15
          have b17 := tw_lt (n := 17) b2
          have b19 := tw_lt (n := 19) b2
          have HT7 := Lib.hid (fun W => show Calls Tryd.prog 61 #[.int .u32 (a15 : Int), .int .i64 7] W (fun e' w' => e' = .returned (.int .u32 ((tw a15 7 : Nat) : Int)) ∧ W = w') from HRT.out a15 7 W b15 (by decide) (by decide))
          have HT18 := Lib.hid (fun W => show Calls Tryd.prog 61 #[.int .u32 (a15 : Int), .int .i64 18] W (fun e' w' => e' = .returned (.int .u32 ((tw a15 18 : Nat) : Int)) ∧ W = w') from HRT.out a15 18 W b15 (by decide) (by decide))
          have HT17 := Lib.hid (fun W => show Calls Tryd.prog 61 #[.int .u32 (a2 : Int), .int .i64 17] W (fun e' w' => e' = .returned (.int .u32 ((tw a2 17 : Nat) : Int)) ∧ W = w') from HRT.out a2 17 W b2 (by decide) (by decide))
          have HT19 := Lib.hid (fun W => show Calls Tryd.prog 61 #[.int .u32 (a2 : Int), .int .i64 19] W (fun e' w' => e' = .returned (.int .u32 ((tw a2 19 : Nat) : Int)) ∧ W = w') from HRT.out a2 19 W b2 (by decide) (by decide))
          generalize tw a15 7 = r7 at *
          generalize tw a15 18 = r18 at *
          generalize tw a2 17 = r17 at *
          generalize tw a2 19 = r19 at *
          obtain ⟨d3, hd3⟩ : ∃ d, a15 / 8 = d := ⟨_, rfl⟩
          obtain ⟨d10, hd10⟩ : ∃ d, a2 / 1024 = d := ⟨_, rfl⟩
          obtain ⟨x1, hx1⟩ : ∃ x, r7 ^^^ r18 = x := ⟨_, rfl⟩
          obtain ⟨x2, hx2⟩ : ∃ x, x1 ^^^ d3 = x := ⟨_, rfl⟩
          obtain ⟨y1, hy1⟩ : ∃ x, r17 ^^^ r19 = x := ⟨_, rfl⟩
          obtain ⟨y2, hy2⟩ : ∃ x, y1 ^^^ d10 = x := ⟨_, rfl⟩
          rw [hd3, hd10, hx1, hx2, hy1, hy2] at hwh
          have bd3 : d3 < 4294967296 := by omega
          have bd10 : d10 < 4294967296 := by omega
          have bx1 : x1 < 4294967296 := by rw [← hx1]; exact Nat.xor_lt_two_pow (n := 32) b7' b18
          have bx2 : x2 < 4294967296 := by rw [← hx2]; exact Nat.xor_lt_two_pow (n := 32) bx1 bd3
          have by1 : y1 < 4294967296 := by rw [← hy1]; exact Nat.xor_lt_two_pow (n := 32) b17 b19
          have by2 : y2 < 4294967296 := by rw [← hy2]; exact Nat.xor_lt_two_pow (n := 32) by1 bd10
          have g1 : bits .xor .u32 (r7 : Int) (r18 : Int) = (x1 : Int) := by rw [u32_xor_nat r7 r18 b7' b18, hx1]
          have g2 : bits .xor .u32 (x1 : Int) (d3 : Int) = (x2 : Int) := by rw [u32_xor_nat x1 d3 bx1 bd3, hx2]
          have g3 : bits .xor .u32 (r17 : Int) (r19 : Int) = (y1 : Int) := by rw [u32_xor_nat r17 r19 b17 b19, hy1]
          have g4 : bits .xor .u32 (y1 : Int) (d10 : Int) = (y2 : Int) := by rw [u32_xor_nat y1 d10 by1 bd10, hy2]
          have t3 : (a15 : Int).tdiv 8 = (d3 : Int) := by rw [Int.tdiv_eq_ediv_of_nonneg (by omega)]; omega
          have t3' : (a15 : Int) / 8 = (d3 : Int) := by omega
          have t10 : (a2 : Int).tdiv 1024 = (d10 : Int) := by rw [Int.tdiv_eq_ediv_of_nonneg (by omega)]; omega
          have t10' : (a2 : Int) / 1024 = (d10 : Int) := by omega
          obtain ⟨u1, hu1⟩ : ∃ x, (a16 + x2) % 4294967296 = x := ⟨_, rfl⟩
          obtain ⟨u2, hu2⟩ : ∃ x, (u1 + a7) % 4294967296 = x := ⟨_, rfl⟩
          have w1 : IntKind.u32.wrap ((a16 : Int) + (x2 : Int)) = (u1 : Int) := by rw [IntKind.wrap_u32]; omega
          have w2 : IntKind.u32.wrap ((u1 : Int) + (a7 : Int)) = (u2 : Int) := by rw [IntKind.wrap_u32]; omega
          have w3 : IntKind.u32.wrap ((u2 : Int) + (y2 : Int)) = (v : Int) := by rw [IntKind.wrap_u32]; omega
          have bu1 : u1 < 4294967296 := by omega
          have bu2 : u2 < 4294967296 := by omega
          have HI16 := Lib.hid hi16
          clear hi16 hwh hd3 hd10 hx1 hx2 hy1 hy2 hu1 hu2
          go_wp2
          go_quiet (fail)
          generalize nq = q1
          have HN1 := Lib.hid (fun q => HN.out (q1 + q))
          have C16 : (wr.drewN q1).cell? ⟨g + 1 + 1, p16, none⟩ = some (.int .u32 (a16 : Int)) := c16
          have C7 : (wr.drewN q1).cell? ⟨g + 1 + 1, p7, none⟩ = some (.int .u32 (a7 : Int)) := c7
          have CI : (wr.drewN q1).cell? ⟨g + 1 + 1, i, none⟩ = some (.int .u32 ((0 : Nat) : Int)) := hci
          have FI : (wr.drewN q1).frozen? ⟨g + 1 + 1, i, none⟩ = false := hfz
          simp only [← World.drewN_drewN] at HN1
          generalize wr.drewN q1 = W1 at HN1 C16 C7 CI FI ⊢
          clear hci hfz c16 c15 c7 c2
          go_wp2_with fail
          refine (HT7.out _).mono ?_
          rintro e' w' ⟨rfl, rfl⟩
          go_wp2_with fail
          refine (HT18.out _).mono ?_
          rintro e' w' ⟨rfl, rfl⟩
          go_wp2_with fail
          refine (HT17.out _).mono ?_
          rintro e' w' ⟨rfl, rfl⟩
          go_wp2_with fail
          refine (HT19.out _).mono ?_
          rintro e' w' ⟨rfl, rfl⟩
          go_wp2
          refine wp_region_quiet_tail 15 (fun w' => ∃ q, w' = W1.drewN q) (by kernel_rfl) (by kernel_rfl) ⟨1, rfl⟩ ?_
          simp only [List.take_succ_cons, List.take_zero, List.drop_succ_cons, List.drop_zero]
          repeat (quiet_step (fail))
          refine wpQuiet_nil ?_
          rintro _ ⟨q2, rfl⟩
          go_wp2
          go_roundg gk
          case measure => omega
          case rel => exact ⟨i + 1, by have := HIG.out; omega, by have := HI16.out; omega, by go_num, HN1.out q2⟩
    | succ gk =>
      have hk : k < 64 := by omega
      have hkI : (k : Int) < 64 := by omega
      have hix := HIX.out k hk
      have hy8 := HB.out k
      obtain ⟨q, hq⟩ : ∃ q, k / 4 = q := ⟨_, rfl⟩
      have hq64 : q < 64 := by omega
      have hqI : (q : Int) < 64 := by omega
      have hc := HW.out.ws.cell q hq64
      have hfz := HW.out.ws.frozen q
      have hx24 := pws_lt HB.out k q hq
      have hn := HW.out.store HG.out q (pws B k q * 256 + B k)
      have HN := Lib.hid (hn.congr (fun j _ => pws_step B k q j hq))
      clear hn
      obtain ⟨x, hx⟩ : ∃ x, pws B k q = x := ⟨_, rfl⟩
      obtain ⟨y, hy⟩ : ∃ y, B k = y := ⟨_, rfl⟩
      rw [hx] at hc hx24 HN
      rw [hy] at hix hy8 HN
      obtain ⟨x8, hx8⟩ : ∃ v, x * 256 = v := ⟨_, rfl⟩
      obtain ⟨z, hz⟩ : ∃ v, x8 + y = v := ⟨_, rfl⟩
      rw [hx8, hz] at HN
      have e1 : (k : Int) / 4 = (q : Int) := by omega
      have e1' : (k : Int).tdiv 4 = (q : Int) := by rw [Int.tdiv_eq_ediv_of_nonneg (by omega)]; omega
      have e2 : IntKind.u32.wrap ((x : Int) * 256) = (x8 : Int) := by rw [IntKind.wrap_u32]; omega
      have e2' : (x : Int) * 256 = (x8 : Int) := by omega
      have e4 : (x8 : Int) % 4294967296 = (x8 : Int) := by omega
      have e3 : bits .or .u32 (x8 : Int) (y : Int) = (z : Int) := by rw [u32_or_nat x8 y (by omega) (by omega), ← hx8, or_byte x y hy8, hx8, hz]
      clear hq hx hy hx8 hz hkg hx24
      go_wp2
      go_roundg gk
      case measure => omega
      case rel => exact ⟨k + 1, by have := HKG.out; omega, by go_num, HN.out⟩
end Go.Proofs.YthbfodmpoheahaaDoor

/-
  Slices of numbers of one kind that read as a list, and such slices of a call's own: what append does with them. Conditions: the lengths add up to no more than 2^20.
-/
namespace Go.Proofs.YthbfodmpoheahaaDoor
open Go.RowKit
open Pol (co Sm)

/-- S is the type of slices of T, numbers of kind k. -/
structure NumT (S T : TypeId) (k : IntKind) : Prop where
  sl : Tryd.prog.underlying S = some (.slice T)
  info : ∃ m, m ≤ 8 ∧ 0 < m ∧ (Tryd.prog.info? T).map (fun i => (i.zero, i.size, i.bytes)) = some (some (.int k 0), 1, m)
  el : Tryd.prog.elem S = T
theorem nt64 : NumT 64 68 .u64 := ⟨Tryd.underlying64, ⟨8, by decide, by decide, by kernel_rfl⟩, by kernel_rfl⟩
theorem nt32 : NumT 66 59 .u32 := ⟨Tryd.underlying66, ⟨4, by decide, by decide, by kernel_rfl⟩, by kernel_rfl⟩

section
variable {S T : TypeId} {k : IntKind}
def nv (k : IntKind) (l : List Nat) : List Value := l.map fun x : Nat => Value.int k (x : Int)
theorem nv_len (l : List Nat) : (nv k l).length = l.length := by simp [nv]
theorem nv_at (l : List Nat) (i : Nat) (h : i < l.length) : (nv k l)[i]? = some (.int k ((co l i : Nat) : Int)) := by simp [nv, co, List.getElem?_eq_getElem h]
theorem nv_append (l m : List Nat) : nv k (l ++ m) = nv k l ++ nv k m := by simp [nv]
/-- From address A on lie the numbers l. -/
def NRd (k : IntKind) (w : World) (A : Option Addr) (l : List Nat) : Prop := ∀ i, i < l.length → ∃ b o, A = some ⟨b, o, none⟩ ∧ w.cell? ⟨b, o + i, none⟩ = some (.int k ((co l i : Nat) : Int))
theorem NRd.ext {w w' : World} {A : Option Addr} {l : List Nat} (h : NRd k w A l) (hx : Ext w w') : NRd k w' A l := fun i hi => by
  obtain ⟨b, o, e, hc⟩ := h i hi
  exact ⟨b, o, e, (hx.below.cell (p := ⟨b, o + i, none⟩) (block_lt_of_cell hc)).trans hc⟩
theorem NRd.nil (w : World) (A : Option Addr) : NRd k w A [] := fun i hi => absurd hi (by simp)
/-- A slice of numbers of the call's own. -/
def NMine (T : TypeId) (k : IntKind) (w : World) (base : Nat) (v : Value) (l : List Nat) : Prop := w.ownsRow base T 1 v l.length (nv k l)
theorem NMine.nil (w : World) (base : Nat) : NMine T k w base (.slice none 0 0) [] := World.ownsRow_nil w base _ _
theorem NMine.slice {w : World} {base : Nat} {v : Value} {l : List Nat} (h : NMine T k w base v l) : ∃ B c, v = .slice B l.length c ∧ l.length ≤ c ∧ NRd k w B l := by
  rcases h.2 with ⟨rfl, hn⟩ | ⟨g, cap, cur, rfl, _, hg, hnc, _, _, htake⟩
  · have : l = [] := List.eq_nil_of_length_eq_zero hn
    subst this
    exact ⟨none, 0, rfl, Nat.le_refl _, NRd.nil _ _⟩
  · refine ⟨_, cap, rfl, hnc, fun i hi => ⟨g, 0, rfl, ?_⟩⟩
    rw [Nat.zero_add, cell_of_row w g i cur _ _ hg, ← nv_at l i hi, ← htake, List.getElem?_take, if_pos (by omega)]
    simp
theorem NMine.ext {w w' : World} {base : Nat} {v : Value} {l : List Nat} (h : NMine T k w base v l) (hx : Ext w w') : NMine T k w' base v l :=
  World.ownsRow.kept h (row := none) ⟨hx.below.os, hx.below.tape, hx.below.output, hx.below.size, fun k hk _ => hx.below.block k hk⟩ (by
    cases hb : v.ownBlock with
    | none => exact .inl rfl
    | some k => exact .inr (by simp))
theorem NMine.keep {w w' : World} {base : Nat} {v : Value} {l : List Nat} {row : Option Nat} (h : NMine T k w base v l) (hg : w.grownBy w' row) (hne : ∀ k, v.ownBlock = some k → some k ≠ row) : NMine T k w' base v l :=
  World.ownsRow.kept h hg (by
    cases hb : v.ownBlock with
    | none => exact .inl rfl
    | some k => exact .inr (hne k hb))
theorem NMine.down {w : World} {base base' : Nat} {v : Value} {l : List Nat} (h : NMine T k w base v l) (hb : base' ≤ base) : NMine T k w base' v l :=
  ⟨h.1, h.2.imp id fun ⟨g, cap, cur, h1, h2, h3⟩ => ⟨g, cap, cur, h1, Nat.le_trans hb h2, h3⟩⟩
theorem NMine.block {w : World} {base : Nat} {v : Value} {l : List Nat} (h : NMine T k w base v l) : ∀ k, v.ownBlock = some k → base ≤ k ∧ k < w.heap.size := fun k hk => World.ownsRow.lt h k hk
theorem nmine_lit (w : World) (l : List Nat) (h : l.length ≤ 1048576) : NMine T k (w.alloc (.cells (nv k l).toArray T)) w.heap.size (.slice (some ⟨w.heap.size, 0, none⟩) l.length l.length) l := by
  have h1 := World.ownsRow_lit w (e := T) (size := 1) (base := w.heap.size) (nv k l).toArray l.length (Nat.le_refl _) (by unfold maxLen; omega) (by simp [nv_len])
  exact h1
theorem nrd_lit (w : World) (l : List Nat) : NRd k (w.alloc (.cells (nv k l).toArray T)) (some ⟨w.heap.size, 0, none⟩) l := fun i hi =>
  ⟨w.heap.size, 0, rfl, by
    rw [cell_of_row _ _ _ _ _ _ (heap_alloc_new w _), Nat.zero_add]
    simpa using nv_at l i hi⟩
set_option maxRecDepth 100000 in
theorem wpList_append_nums (nt : NumT S T k) {ops : Array Oper} {rest : List Oper} {o : Oper} {a : Act} {w : World} {Q : Exit → Act → World → Prop} (hgd : o.guard = none) (s x : Operand)
    (ho : o.op = .call { callee := .builtin .append, args := #[s, x], argTypes := #[S, S] })
    (base : Nat) (v : Value) (l m : List Nat) (hs : a.eval s = v) (hown : NMine T k w base v l) (b p n c : Nat) (hx : a.eval x = .slice (some ⟨b, p, none⟩) n c) (hn : m.length = n) (hr : ∀ i, i < m.length → w.cell? ⟨b, p + i, none⟩ = some (.int k ((co m i : Nat) : Int)))
    (hlen : l.length + m.length ≤ 1048576) (hbase : base ≤ w.heap.size)
    (h : ∀ v' w', NMine T k w' base v' (l ++ m) → w.grownBy w' v.ownBlock → (v'.ownBlock = v.ownBlock ∨ v'.ownBlock = some w.heap.size) → wpList Tryd.prog ops Q rest (a.put o.dst v') w') :
    wpList Tryd.prog ops Q (o :: rest) a w := by
  subst hn
  refine wpList_plain hgd fun K hK => ?_
  obtain ⟨z, hz8, hz0', hinf⟩ := nt.info
  obtain ⟨i0, hi, hz0, hz1, hz2⟩ := info_parts hinf
  obtain ⟨v', w', h1, h2, h3, _, h5⟩ := run_append_own_at (P := Tryd.prog) w base S o.type T i0 (.int k 0) 1 z nt.sl hi hz0 hz1 hz2 rfl (by omega) v l.length (nv k l) hown ⟨b, p, none⟩ m.length c (nv k m) (by rw [nv_len, Nat.mul_one])
    (fun j u hu => by
      have hj : j < m.length := by
        have := (List.getElem?_eq_some_iff.1 hu).1
        rwa [nv_len] at this
      rw [addr_add, hr j hj, ← nv_at m j hj, hu]) (fun u hu => by
      obtain ⟨y, _, rfl⟩ := List.mem_map.1 hu
      rfl) (by unfold maxLen; omega) (by
        have : (l.length + m.length) * z ≤ 1048576 * 8 := Nat.mul_le_mul hlen hz8
        omega) hbase
  unfold Oper.wp execOp
  simp only [ho, resolve, invoke, builtin, Sem.run_bind, Sem.run_pure, Result.andThen_ok, List.map_toArray, List.map_cons, List.map_nil, hs, hx, h1]
  exact hK _ _ (h v' w' (by unfold NMine; rw [List.length_append, nv_append]; exact h2) h3 h5)
/-- One number that a literal holds. -/
theorem one_num {w : World} {x : Nat} {T : TypeId} : ∀ i, i < [x].length → (w.alloc (.cells #[.int k (x : Int)] T)).cell? ⟨w.heap.size, 0 + i, none⟩ = some (.int k ((co [x] i : Nat) : Int)) := fun i hi => by
  have h0 : i = 0 := by simpa using hi
  subst h0
  rw [cell_of_row _ _ _ _ _ _ (heap_alloc_new w _)]
  rfl
end
end Go.Proofs.YthbfodmpoheahaaDoor

/-
  What the document's own times of layer 10 does. Conditions: no more than 2^16 digits.
-/
namespace Go.Proofs.YthbfodmpoheahaaDoor
open Go.RowKit
open Pol (co Sm)

/-- Numbers of a call's own. -/
def GivesN (k : IntKind) (T : TypeId) (l : List Nat) (w : World) (e : Ending) (w' : World) : Prop := ∃ v, e = .returned v ∧ NMine T k w' w.heap.size v l ∧ Ext w w'
theorem drop_co (l : List Nat) (i : Nat) (h : i < l.length) : l.drop i = co l i :: l.drop (i + 1) := by
  rw [List.drop_eq_getElem_cons h, show co l i = l[i] from by simp [co, List.getElem?_eq_getElem h]]

set_option maxHeartbeats 800000 in
set_option maxRecDepth 100000 in
theorem ref10_times (l : List Nat) (n : Nat) (b o c : Nat) (w : World) (hr : ∀ i, i < l.length → w.cell? ⟨b, o + i, none⟩ = some (.int .u64 ((co l i : Nat) : Int))) (hl : l.length ≤ 65536) (hd : Dg l) (hn : n < 1099511627776) :
    Calls Tryd.prog 62 #[.slice (some ⟨b, o, none⟩) l.length c, .int .u64 (n : Int)] w (GivesN .u64 68 (tms n 0 l) w) := by
  unfold GivesN
  have hok := tms_ok n (by omega) l 0 hd (Nat.zero_le _)
  have HLEN := Lib.hid hok.2.2
  have HD := Lib.hid hd
  have HR := Lib.hid hr
  obtain ⟨L, hL⟩ : ∃ L, l.length = L := ⟨_, rfl⟩
  have HL := Lib.hid hL
  rw [hL] at hl HLEN HR ⊢
  obtain ⟨V, hV⟩ : ∃ V, tms n 0 l = V := ⟨_, rfl⟩
  have HV := Lib.hid (show [] ++ tms n 0 (l.drop 0) = V from hV)
  rw [hV] at HLEN ⊢
  clear hr hL hV hok hd
  go_enter Tryd.func62, Tryd.ntmps62
  go_wp2
  go_loopg [5, 6, 7] V.length (fun g s5 s6 s7 wx => ∃ (i cy : Nat) (out : List Nat), out ++ tms n cy (l.drop i) = V ∧ (tms n cy (l.drop i)).length = g ∧ cy ≤ n ∧ out.length = i ∧ s7 = .int .i64 (i : Int) ∧ s6 = .int .u64 (cy : Int) ∧ NMine 68 .u64 wx w.heap.size s5 out ∧ Ext w wx)
  case atStart => exact ⟨0, 0, [], HV.out, by rw [← HV.out]; rfl, Nat.zero_le _, rfl, rfl, rfl, NMine.nil _ _, Ext.refl _⟩
  case round =>
    obtain ⟨i, cy, out, hov, hg, hcy, hiV, rfl, rfl, hm, hx⟩ := hrel
    have hVl : V.length ≤ 65540 := by have := HLEN.out; omega
    have HM := Lib.hid hm
    have HX := Lib.hid hx
    obtain ⟨B5, c5, rfl, hc5, _⟩ := hm.slice
    have hol : out.length + gk = V.length := by rw [← hov, List.length_append, hg]
    have hs := hx.size
    obtain ⟨lo, hlo⟩ : ∃ lo, out.length = lo := ⟨_, rfl⟩
    have HLO := Lib.hid hlo
    rw [hlo] at hol HM hc5 hiV ⊢
    have hiV2 := hiV.symm
    clear hiV
    subst hiV2
    clear hm hx hlo
    by_cases hi : i < L
    · have d1 : decide ((i : Int) < (L : Int)) = true := decide_eq_true (by omega)
      have hiI : (i : Int) < (L : Int) := by omega
      have hcell := (HX.out.below.cell (p := ⟨b, o + i, none⟩) (block_lt_of_cell (HR.out i hi))).trans (HR.out i hi)
      have hd16 : co l i < 65536 := HD.out.at i
      rw [drop_co l i (by rw [HL.out]; exact hi), tms_cons] at hov hg
      obtain ⟨dd, hdd⟩ : ∃ dd, co l i = dd := ⟨_, rfl⟩
      rw [hdd] at hcell hd16 hov hg
      obtain ⟨x1, hx1⟩ : ∃ x, dd * n = x := ⟨_, rfl⟩
      have hx1b : x1 ≤ 65535 * n := by rw [← hx1]; exact Nat.mul_le_mul_right _ (by omega)
      rw [hx1] at hov hg
      obtain ⟨x, hx⟩ : ∃ x, cy + x1 = x := ⟨_, rfl⟩
      rw [hx] at hov hg
      have e1 : (dd : Int) * (n : Int) = (x1 : Int) := by rw [← hx1]; exact (Int.natCast_mul dd n).symm
      have e2 : (cy : Int) + (x1 : Int) = (x : Int) := by omega
      obtain ⟨y, hy⟩ : ∃ y, x % 65536 = y := ⟨_, rfl⟩
      obtain ⟨z, hz⟩ : ∃ z, x / 65536 = z := ⟨_, rfl⟩
      rw [hy, hz] at hov hg
      have e3 : (x : Int) % 65536 = (y : Int) := by omega
      have e4 : (x : Int) / 65536 = (z : Int) := by omega
      have hzn : z ≤ n := by omega
      have hxb : x < 18446744073709551616 := by omega
      have hx1b2 : x1 < 18446744073709551616 := by omega
      have hyb : y < 65536 := by omega
      cases gk with
      | zero => rw [List.length_cons] at hg; omega
      | succ g =>
        have HOV := Lib.hid (show (out ++ [y]) ++ tms n z (l.drop (i + 1)) = V from by rw [List.append_assoc]; exact hov)
        have HG := Lib.hid (show (tms n z (l.drop (i + 1))).length = g from by rw [List.length_cons] at hg; omega)
        clear hov hg hdd hx1 hx hy hz
        go_wp2_with (at_builtin; refine wpList_append_nums nt64 rfl (.tmp 32) (.tmp 35) rfl w.heap.size (.slice B5 i c5) out [y] rfl (HM.out.ext ((Ext.refl _).alloc _)) wr.heap.size 0 1 1 rfl rfl one_num (by rw [HLO.out]; simp; omega) (by simp; omega) ?_; intro v7 w7 hown7 hg7 hat7; have HX7 := Lib.hid ((HX.out.alloc (.cells #[.int .u64 (y : Int)] 68)).more hg7 (fun q hq => (HM.out.block q hq).1)); have HM7 := Lib.hid hown7; clear hown7 hg7 hat7)
        go_roundg g
        case measure => omega
        case rel => exact ⟨i + 1, z, out ++ [y], HOV.out, HG.out, hzn, by rw [List.length_append, HLO.out]; rfl, by go_num, rfl, HM7.out, HX7.out⟩
    · have d1 : decide ((i : Int) < (L : Int)) = false := decide_eq_false (by omega)
      rw [List.drop_eq_nil_of_le (by rw [HL.out]; omega)] at hov hg
      by_cases h0 : cy = 0
      · subst h0
        rw [tms_zero, List.append_nil] at hov
        subst hov
        go_wp2
        go_ret
        exact ⟨_, rfl, HM.out, HX.out⟩
      · have d2 : decide (0 < (cy : Int)) = true := decide_eq_true (by omega)
        have d3 : decide (0 < cy) = true := decide_eq_true (by omega)
        rw [tms_more n cy h0] at hov hg
        obtain ⟨y, hy⟩ : ∃ y, cy % 65536 = y := ⟨_, rfl⟩
        obtain ⟨z, hz⟩ : ∃ z, cy / 65536 = z := ⟨_, rfl⟩
        rw [hy, hz] at hov hg
        have e3 : (cy : Int) % 65536 = (y : Int) := by omega
        have e4 : (cy : Int) / 65536 = (z : Int) := by omega
        have hzn : z ≤ n := by omega
        have hyb : y < 65536 := by omega
        cases gk with
        | zero => rw [List.length_cons] at hg; omega
        | succ g =>
          have HOV := Lib.hid (show (out ++ [y]) ++ tms n z (l.drop (i + 1)) = V from by rw [List.append_assoc, List.drop_eq_nil_of_le (by rw [HL.out]; omega)]; exact hov)
          have HG := Lib.hid (show (tms n z (l.drop (i + 1))).length = g from by rw [List.drop_eq_nil_of_le (by rw [HL.out]; omega)]; rw [List.length_cons] at hg; omega)
          clear hov hg hy hz
          go_wp2_with (at_builtin; refine wpList_append_nums nt64 rfl (.tmp 32) (.tmp 35) rfl w.heap.size (.slice B5 i c5) out [y] rfl (HM.out.ext ((Ext.refl _).alloc _)) wr.heap.size 0 1 1 rfl rfl one_num (by rw [HLO.out]; simp; omega) (by simp; omega) ?_; intro v7 w7 hown7 hg7 hat7; have HX7 := Lib.hid ((HX.out.alloc (.cells #[.int .u64 (y : Int)] 68)).more hg7 (fun q hq => (HM.out.block q hq).1)); have HM7 := Lib.hid hown7; clear hown7 hg7 hat7)
          go_roundg g
          case measure => omega
          case rel => exact ⟨i + 1, z, out ++ [y], HOV.out, HG.out, hzn, by rw [List.length_append, HLO.out]; rfl, by go_num, rfl, HM7.out, HX7.out⟩
end Go.Proofs.YthbfodmpoheahaaDoor

/-
  Part 4 of the texts that the seat's proofs stand on; each part of it begins with its own sentence and conditions. Conditions: those that each theorem names.
-/
import Derived.Test.YthbfodmpoheahaaDoorChangesPack3
import Derived.StillTail
import Derived.Laws.ResultCell

/-
  A region that draws its order, some of whose operations only read what stays: these may be taken ahead of the others, and the others come one after the other. Conditions: a check of the region's text (by the kernel); of no program in particular.
-/
namespace Go.Proofs.YthbfodmpoheahaaDoor
open Go

section
variable {P : Program} {ops : Array Oper} {Q : Exit → Act → World → Prop} {md : Region.Mode} {C : World → Prop}

/-- In every world of the class the operation yields v and leaves the world alone. -/
def YieldsC (P : Program) (ops : Array Oper) (C : World → Prop) (o : Oper) (v : Value) (a : Act) : Prop :=
  (Region.wanted o (yielded ops a.tmps) = true ∧ ∀ w, C w → (execOp a.eval o).run P w = .ok (.value v) w) ∨ (Region.wanted o (yielded ops a.tmps) = false ∧ v = undef) ∨
    (Region.wanted o (yielded ops a.tmps) = true ∧ ∃ f args, (∀ w, C w → (execOp a.eval o).run P w = .ok (.enter f args) w) ∧ ∀ w, C w → Calls P f args w (fun e w' => e = .returned v ∧ w = w'))
theorem YieldsC.wpOp {i : Nat} {o : Oper} {v : Value} {a : Act} (hi : ops[i]? = some o) (hy : YieldsC P ops C o v a) {K : Act → World → Prop} {w : World} (hw : C w) (h : K (a.put o.dst v) w) : wpOp P ops Q i K a w := by
  unfold Go.wpOp
  simp only [hi]
  rcases hy with ⟨hg, hv⟩ | ⟨hg, rfl⟩ | ⟨hg, f, args, hv, hc⟩
  · simp only [hg, if_true, Oper.wp, hv w hw, Oper.upon]; exact .inl h
  · simp only [hg, Bool.false_eq_true, if_false]; exact h
  · simp only [hg, if_true, Oper.wp, hv w hw, Oper.upon]
    refine .inl (Calls.mono (hc w hw) ?_)
    rintro e w' ⟨rfl, rfl⟩
    exact h
theorem YieldsC.of_same {o : Oper} {v : Value} {a a' : Act} (hy : YieldsC P ops C o v a) (he : execOp a'.eval o = execOp a.eval o) (hw : Region.wanted o (yielded ops a'.tmps) = Region.wanted o (yielded ops a.tmps)) : YieldsC P ops C o v a' := by
  unfold YieldsC at *
  rw [he, hw]
  exact hy
theorem wpOp_putC {j : Nat} {oi oj : Oper} {v : Value} (hj : ops[j]? = some oj) (hap : oi.apart ops oj = true) (hsi : ∀ cs b, oi.op ≠ .select cs b) (hsj : ∀ cs b, oj.op ≠ .select cs b)
    (hQ : ∀ c a w, Q (.panic c) (a.put oi.dst v) w → Q (.panic c) a w) {K : Act → World → Prop} {a : Act} {w : World} (hy : YieldsC P ops C oi v a) (h : wpOp P ops Q j K (a.put oi.dst v) w) :
    wpOp P ops Q j (fun a' w' => YieldsC P ops C oi v a' ∧ K (a'.put oi.dst v) w') a w := by
  obtain ⟨h1, h2, h3⟩ := Oper.apart_spec hap
  have keep : ∀ (a : Act), YieldsC P ops C oi v a → ∀ u, YieldsC P ops C oi v (a.put oj.dst u) := fun a hy u => hy.of_same (execOp_put oi hsi a oj.dst u h3) (wanted_put oi a oj.dst u h3)
  have keepD : ∀ d, YieldsC P ops C oi v { a with defers := d :: a.defers } := fun d => hy.of_same rfl rfl
  unfold wpOp at *
  simp only [hj] at *
  rw [wanted_put oj a oi.dst v h1] at h
  split
  · rename_i hw
    simp only [hw, if_true] at h
    rcases h with h | ⟨hasks, hlets⟩
    case inr => exact .inr ⟨by unfold Oper.asks at *; rw [execOp_put oj hsj a oi.dst v h1] at hasks; exact hasks, hlets⟩
    refine .inl ?_
    unfold Oper.wp at *
    rw [execOp_put oj hsj a oi.dst v h1] at h
    generalize (execOp a.eval oj).run P w = r at *
    cases r with
    | ok n w' =>
      cases n <;> simp only [Oper.upon] at h ⊢
      case value u => exact ⟨keep a hy u, by rw [← Act.put_comm a v u h2]; exact h⟩
      case skip => exact ⟨keep a hy _, by rw [← Act.put_comm a v undef h2]; exact h⟩
      case defer d =>
        refine ⟨keep _ (keepD d) _, ?_⟩
        rw [← Act.put_comm _ v undef h2, ← Act.put_defers]
        exact h
      case enter f args =>
        refine Calls.mono h fun e w'' he => ?_
        cases e with
        | returned u => exact ⟨keep a hy u, by rw [← Act.put_comm a v u h2]; exact he⟩
        | panicked c => exact hQ _ _ _ he
        | outgrown => exact he
      case row row args => exact Rows.mono h fun u w'' he => ⟨keep a hy u, by rw [← Act.put_comm a v u h2]; exact he⟩
    | halt x w' =>
      cases x <;> simp only [Oper.upon] at h ⊢
      case panic u => exact hQ _ _ _ h
  · rename_i hw
    simp only [hw] at h
    exact ⟨keep a hy _, by rw [← Act.put_comm a v undef h2]; exact h⟩

/-- As wpAny, and the operations of F leave the world in the class. -/
def wpAnyC (P : Program) (md : Region.Mode) (ops : Array Oper) (C : World → Prop) (F : Nat → Bool) (Q : Exit → Act → World → Prop) : Nat → Array Bool → Act → World → Prop
  | 0, listed, a, w => Region.ready md ops listed = [] ∧ Q .normal a w
  | fuel + 1, listed, a, w => (Region.ready md ops listed = [] → Q .normal a w) ∧ ∀ i ∈ Region.ready md ops listed, wpOp P ops Q i (fun a' w' => (F i = true → C w') ∧ wpAnyC P md ops C F Q fuel (listed.setIfInBounds i true) a' w') a w
theorem wpAny_of_C {F : Nat → Bool} : ∀ (fuel : Nat) (listed : Array Bool) (a : Act) (w : World), wpAnyC P md ops C F Q fuel listed a w → wpAny P md ops Q fuel listed a w
  | 0, _, _, _, h => h
  | fuel + 1, _, _, _, h => ⟨h.1, fun i hi => wpOp_mono (fun a' w' h' => wpAny_of_C fuel _ a' w' h'.2) (h.2 i hi)⟩
/-- What is listed waits for nothing that is not. -/
def Closed (md : Region.Mode) (ops : Array Oper) (listed : Array Bool) : Prop := ∀ j oj, ops[j]? = some oj → listed.getD j false = true → ∀ e ∈ oj.after, Region.binds md e = true → listed.getD e.on false = true
theorem Closed.set {listed : Array Bool} (h : Closed md ops listed) {i : Nat} (hi : i ∈ Region.ready md ops listed) : Closed md ops (listed.setIfInBounds i true) := fun j oj hoj hl e he hb => by
  by_cases hji : j = i
  · subst hji
    obtain ⟨_, o, ho, hall⟩ := mem_ready.1 hi
    rw [hoj] at ho
    injection ho with ho
    subst ho
    exact getD_set_true (hall e he hb)
  · rw [getD_set_ne false (fun h => hji h.symm)] at hl
    exact getD_set_true (h j oj hoj hl e he hb)
/-- What stands behind i; what is not of F does. -/
def bhStep (md : Region.Mode) (ops : Array Oper) (i : Nat) (acc : List Nat) (j : Nat) : List Nat :=
  match ops[j]? with
  | some oj => if oj.after.any (fun e => Region.binds md e && (e.on == i || acc.contains e.on)) then j :: acc else acc
  | none => acc
def behindB (md : Region.Mode) (ops : Array Oper) (F : Nat → Bool) (i : Nat) : Bool :=
  (List.range ops.size).all fun j => j == i || F j || ((List.range ops.size).foldl (bhStep md ops i) []).contains j
theorem bh_fold {i : Nat} {listed : Array Bool} (hc : Closed md ops listed) (hi : listed.getD i false = false) : ∀ (l acc : List Nat), (∀ j ∈ acc, listed.getD j false = false ∧ j ∉ Region.ready md ops listed) →
    ∀ j ∈ l.foldl (bhStep md ops i) acc, listed.getD j false = false ∧ j ∉ Region.ready md ops listed
  | [], acc, h => h
  | k :: l, acc, h => by
    refine bh_fold hc hi l (bhStep md ops i acc k) ?_
    unfold bhStep
    cases hk : ops[k]? with
    | none => exact h
    | some ok =>
      simp only
      split
      · rename_i hany
        intro j hj
        rcases List.mem_cons.1 hj with e | e
        · subst e
          obtain ⟨e, he, hb⟩ := Array.any_eq_true'.1 hany
          simp only [Bool.and_eq_true, Bool.or_eq_true, beq_iff_eq] at hb
          have hno : listed.getD e.on false = false := by
            rcases hb.2 with h2 | h2
            · rw [h2]; exact hi
            · exact (h e.on (by simpa using h2)).1
          constructor
          · cases hl : listed.getD j false with
            | false => rfl
            | true =>
              have := hc j ok hk hl e he hb.1
              rw [hno] at this
              cases this
          · intro hr
            obtain ⟨_, o, ho, hall⟩ := mem_ready.1 hr
            rw [hk] at ho
            injection ho with ho
            subst ho
            have := hall e he hb.1
            rw [hno] at this
            cases this
        · exact h j e
      · exact h
theorem behind_not {F : Nat → Bool} {i : Nat} (hB : behindB md ops F i = true) {listed : Array Bool} (hc : Closed md ops listed) (hi : listed.getD i false = false) :
    ∀ j, j < ops.size → j ≠ i → F j = false → listed.getD j false = false ∧ j ∉ Region.ready md ops listed := fun j hj hji hF => by
  have h1 := List.all_eq_true.1 hB j (List.mem_range.2 hj)
  simp only [hF, Bool.or_false, Bool.or_eq_true, beq_iff_eq, hji, false_or] at h1
  exact bh_fold hc hi _ [] (fun _ h => absurd h (by simp)) j (by simpa using h1)

theorem wpAnyC_first {F : Nat → Bool} {i : Nat} {oi : Oper} {v : Value} (hi : ops[i]? = some oi) (hsel : ∀ (j : Nat) (o : Oper) cs b, ops[j]? = some o → o.op ≠ .select cs b)
    (hQ : ∀ c a w, Q (.panic c) (a.put oi.dst v) w → Q (.panic c) a w) (hB : behindB md ops F i = true) :
    ∀ (fuel : Nat) (listed : Array Bool) (a : Act) (w : World), C w → Closed md ops listed →
      (∀ j oj, ops[j]? = some oj → j ≠ i → listed.getD j true = false → (∀ e ∈ oj.after, Region.binds md e = true → e.on ≠ i) → oi.apart ops oj = true) →
      i ∈ Region.ready md ops listed → YieldsC P ops C oi v a →
      wpAnyC P md ops C F Q fuel (listed.setIfInBounds i true) (a.put oi.dst v) w → wpAnyC P md ops C F Q (fuel + 1) listed a w := by
  intro fuel
  induction fuel with
  | zero =>
    intro listed a w hC _ _ hr hy H
    refine ⟨fun h => (by rw [h] at hr; cases hr), fun j hj => ?_⟩
    by_cases hji : j = i
    · subst hji; exact hy.wpOp hi hC ⟨fun _ => hC, H⟩
    · have := ready_mono hj hji
      rw [H.1] at this
      cases this
  | succ fuel ih =>
    intro listed a w hC hcl hfree hr hy H
    refine ⟨fun h => (by rw [h] at hr; cases hr), fun j hj => ?_⟩
    by_cases hji : j = i
    · subst hji; exact hy.wpOp hi hC ⟨fun _ => hC, H⟩
    · have h1 := H.2 j (ready_mono hj hji)
      obtain ⟨hjun, oj, hoj, hall⟩ := mem_ready.1 hj
      have hiun := (mem_ready.1 hr).1
      have hnot : ∀ e ∈ oj.after, Region.binds md e = true → e.on ≠ i := fun e he hb heq => by
        have h1 := hall e he hb
        rw [heq, getD_both hiun] at h1
        cases h1
      have hFj : F j = true := by
        cases hF : F j with
        | true => rfl
        | false => exact absurd hj (behind_not hB hcl (getD_both hiun) j (Array.getElem?_eq_some_iff.1 hoj).1 hji hF).2
      have h2 := wpOp_putC hoj (hfree j oj hoj hji hjun hnot) (fun cs b => hsel i oi cs b hi) (fun cs b => hsel j oj cs b hoj) hQ hy h1
      have hfree' : ∀ k ok, ops[k]? = some ok → k ≠ i → (listed.setIfInBounds j true).getD k true = false →
          (∀ e ∈ ok.after, Region.binds md e = true → e.on ≠ i) → oi.apart ops ok = true := fun k ok hk hki hun hno => by
        refine hfree k ok hk hki ?_ hno
        by_cases hjk : j = k
        · subst hjk; exact hjun
        · rw [getD_set_ne true hjk] at hun; exact hun
      refine wpOp_mono (fun a' w' h3 => ⟨fun _ => h3.2.1 hFj, ih (listed.setIfInBounds j true) a' w' (h3.2.1 hFj) (hcl.set hj) hfree' (ready_mono hr (Ne.symm hji)) h3.1 ?_⟩) h2
      rw [Array.setIfInBounds_comm _ _ hji]
      exact h3.2.2

/-- The walk: an operation that only reads what stays (true), or the only one that may come up (false). -/
def wpStab (P : Program) (l : List Oper) (C : World → Prop) (F : Nat → Bool) (Q : Exit → Act → World → Prop) : List (Nat × Bool) → Act → World → Prop
  | [], a, w => wpList P l.toArray Q [] a w
  | (i, true) :: π, a, w => ∃ o v, l[i]? = some o ∧ YieldsC P l.toArray C o v a ∧ wpStab P l C F Q π (a.put o.dst v) w
  | (i, false) :: π, a, w => ∃ o, l[i]? = some o ∧ wpList P l.toArray (Exit.then (fun a' w' => (F i = true → C w') ∧ wpStab P l C F Q π a' w') Q) [o] a w
theorem stab_yes {F : Nat → Bool} {l : List Oper} {i : Nat} {o : Oper} {π : List (Nat × Bool)} {a : Act} {w : World} (ho : l[i]? = some o)
    (h : ∀ K : Act → Prop, (∀ a', wpStab P l C F Q π a' w → K a') → Region.wanted o (yielded l.toArray a.tmps) = true ∧ ∃ v, (∀ W, C W → (execOp a.eval o).run P W = .ok (.value v) W) ∧ K (a.put o.dst v)) : wpStab P l C F Q ((i, true) :: π) a w := by
  obtain ⟨h1, v, h2, h3⟩ := h (fun a' => wpStab P l C F Q π a' w) (fun _ h => h)
  exact ⟨o, v, ho, .inl ⟨h1, h2⟩, h3⟩
theorem stab_call {F : Nat → Bool} {l : List Oper} {i : Nat} {o : Oper} {π : List (Nat × Bool)} {a : Act} {w : World} (ho : l[i]? = some o)
    (h : ∀ K : Act → Prop, (∀ a', wpStab P l C F Q π a' w → K a') → Region.wanted o (yielded l.toArray a.tmps) = true ∧ ∃ f args v, (∀ W, C W → (execOp a.eval o).run P W = .ok (.enter f args) W) ∧ (∀ W, C W → Calls P f args W (fun e w' => e = .returned v ∧ W = w')) ∧ K (a.put o.dst v)) : wpStab P l C F Q ((i, true) :: π) a w := by
  obtain ⟨h1, f, args, v, h2, h3, h4⟩ := h (fun a' => wpStab P l C F Q π a' w) (fun _ h => h)
  exact ⟨o, v, ho, .inr (.inr ⟨h1, f, args, h2, h3⟩), h4⟩
theorem stab_one {F : Nat → Bool} {l : List Oper} {i : Nat} {o : Oper} {π : List (Nat × Bool)} {a : Act} {w : World} (ho : l[i]? = some o)
    (h : ∀ K : Act → World → Prop, (∀ a' w', (F i = true → C w') ∧ wpStab P l C F Q π a' w' → K a' w') → wpList P l.toArray (Exit.then K Q) [o] a w) : wpStab P l C F Q ((i, false) :: π) a w :=
  ⟨o, ho, h _ (fun _ _ h => h)⟩
/-- The check: c says whether the world is in the class. -/
def stabB (md : Region.Mode) (ops : Array Oper) (F : Nat → Bool) : Bool → List (Nat × Bool) → Array Bool → Bool
  | _, [], listed => (Region.ready md ops listed).isEmpty
  | c, (i, true) :: π, listed => c && (Region.ready md ops listed).contains i && Region.free md ops listed i && behindB md ops F i && stabB md ops F c π (listed.setIfInBounds i true)
  | c, (i, false) :: π, listed => (Region.ready md ops listed == [i]) && stabB md ops F (c && F i) π (listed.setIfInBounds i true)
theorem wpAnyC_of_stab {F : Nat → Bool} {l : List Oper} (hsel : Region.noSelect l.toArray = true) (hQ : ∀ c a a' w, a.defers = a'.defers → Q (.panic c) a w → Q (.panic c) a' w) :
    ∀ (π : List (Nat × Bool)) (c : Bool) (listed : Array Bool) (a : Act) (w : World), (c = true → C w) → Closed md l.toArray listed → stabB md l.toArray F c π listed = true → wpStab P l C F Q π a w → wpAnyC P md l.toArray C F Q π.length listed a w
  | [], _, listed, a, w, _, _, hB, h => ⟨by simpa [stabB] using hB, h⟩
  | (i, true) :: π, c, listed, a, w, hC, hcl, hB, h => by
    obtain ⟨o, v, ho0, hy, hK⟩ := h
    have ho : l.toArray[i]? = some o := by simpa using ho0
    simp only [stabB, Bool.and_eq_true] at hB
    obtain ⟨⟨⟨⟨hc, hr⟩, hf⟩, hb⟩, hrest⟩ := hB
    have hr' : i ∈ Region.ready md l.toArray listed := by simpa using hr
    exact wpAnyC_first ho (Region.noSelect_spec hsel) (fun ch a w h => hQ ch _ _ w (by cases o.dst <;> rfl) h) hb π.length listed a w (hC hc) hcl (Region.free_spec ho hf) hr' hy
      (wpAnyC_of_stab hsel hQ π c _ _ _ hC (hcl.set hr') hrest hK)
  | (i, false) :: π, c, listed, a, w, hC, hcl, hB, h => by
    obtain ⟨o, ho0, hK⟩ := h
    have ho : l.toArray[i]? = some o := by simpa using ho0
    simp only [stabB, Bool.and_eq_true] at hB
    obtain ⟨hr, hrest⟩ := hB
    have hr1 : Region.ready md l.toArray listed = [i] := by simpa using hr
    have hr' : i ∈ Region.ready md l.toArray listed := by rw [hr1]; simp
    refine ⟨fun h0 => absurd h0 (by rw [hr1]; simp), fun j hj => ?_⟩
    obtain rfl : j = i := by rw [hr1] at hj; simpa using hj
    refine wpOp_mono (fun a' w' h' => ⟨h'.1, wpAnyC_of_stab hsel hQ π (c && F j) _ a' w' (fun hcf => ?_) (hcl.set hr') hrest h'.2⟩) (wpOp_of_one ho hK)
    rw [Bool.and_eq_true] at hcf
    exact h'.1 hcf.2
theorem wp_region_stab {id : Nat} {a : Act} {w : World} {l : List Oper} (C : World → Prop) (F : List Nat) (π : List (Nat × Bool)) (hm : P.follows .mixedOrders = true) (hQ : ∀ c a a' w, a.defers = a'.defers → Q (.panic c) a w → Q (.panic c) a' w)
    (hB : (Region.noSelect l.toArray && (π.length == l.length) && stabB .any l.toArray (fun i => F.contains i) true π (Array.replicate l.length false)) = true) (hC : C w.drew) (h : wpStab P l C (fun i => F.contains i) Q π a w.drew) : (Code.region id l.toArray true).wp P Q a w := by
  simp only [Bool.and_eq_true, beq_iff_eq] at hB
  obtain ⟨⟨hsel, hlen⟩, hst⟩ := hB
  refine wp_region_any hm (wpAny_of_C (C := C) (F := fun i => F.contains i) _ _ _ _ ?_)
  have h1 := wpAnyC_of_stab (P := P) (Q := Q) (C := C) (md := .any) hsel hQ π true (Array.replicate l.length false) a w.drew (fun _ => hC) (fun j oj _ hl => by rw [getD_replicate_false] at hl; cases hl) hst h
  rw [hlen] at h1
  have hsz : l.toArray.size = l.length := by simp
  rw [hsz]
  exact h1
end
/-- Two cells, and what they hold. -/
def Two (p : Addr) (v : Value) (q : Addr) (u : Value) (W : World) : Prop := W.cell? p = some v ∧ W.cell? q = some u
end Go.Proofs.YthbfodmpoheahaaDoor

/-
  A region that draws its order, walked by a plan: operations that only read what stays are taken ahead, one that alone may come up comes up, and where two or three may come up next each of them is walked. Conditions: a check of the region's text (by the kernel); of no program in particular.
-/
namespace Go.Proofs.YthbfodmpoheahaaDoor
open Go

/-- A plan: the end; an operation that only reads what stays; the only one that may come up; one of two; one of three. -/
inductive Plan where
  | done : Plan
  | yes : Nat → Plan → Plan
  | one : Nat → Plan → Plan
  | two : Nat → Plan → Nat → Plan → Plan
  | three : Nat → Plan → Nat → Plan → Nat → Plan → Plan

section
variable {P : Program} {Q : Exit → Act → World → Prop} {md : Region.Mode} {C : World → Prop}
/-- Operation i, and then K. -/
def wpStepP (P : Program) (l : List Oper) (Q : Exit → Act → World → Prop) (i : Nat) (K : Act → World → Prop) (a : Act) (w : World) : Prop :=
  ∃ o, l[i]? = some o ∧ wpList P l.toArray (Exit.then K Q) [o] a w
/-- The walk by a plan. -/
def wpPlan (P : Program) (l : List Oper) (C : World → Prop) (F : Nat → Bool) (Q : Exit → Act → World → Prop) : Plan → Act → World → Prop
  | .done, a, w => wpList P l.toArray Q [] a w
  | .yes i p, a, w => ∃ o v, l[i]? = some o ∧ YieldsC P l.toArray C o v a ∧ wpPlan P l C F Q p (a.put o.dst v) w
  | .one i p, a, w => wpStepP P l Q i (fun a' w' => (F i = true → C w') ∧ wpPlan P l C F Q p a' w') a w
  | .two i p j q, a, w => wpStepP P l Q i (fun a' w' => (F i = true → C w') ∧ wpPlan P l C F Q p a' w') a w ∧ wpStepP P l Q j (fun a' w' => (F j = true → C w') ∧ wpPlan P l C F Q q a' w') a w
  | .three i p j q k r, a, w => wpStepP P l Q i (fun a' w' => (F i = true → C w') ∧ wpPlan P l C F Q p a' w') a w ∧ wpStepP P l Q j (fun a' w' => (F j = true → C w') ∧ wpPlan P l C F Q q a' w') a w ∧ wpStepP P l Q k (fun a' w' => (F k = true → C w') ∧ wpPlan P l C F Q r a' w') a w
theorem plan_yes {F : Nat → Bool} {l : List Oper} {i : Nat} {o : Oper} {π : Plan} {a : Act} {w : World} (ho : l[i]? = some o)
    (h : ∀ K : Act → Prop, (∀ a', wpPlan P l C F Q π a' w → K a') → Region.wanted o (yielded l.toArray a.tmps) = true ∧ ∃ v, (∀ W, C W → (execOp a.eval o).run P W = .ok (.value v) W) ∧ K (a.put o.dst v)) : wpPlan P l C F Q (.yes i π) a w := by
  obtain ⟨h1, v, h2, h3⟩ := h (fun a' => wpPlan P l C F Q π a' w) (fun _ h => h)
  exact ⟨o, v, ho, .inl ⟨h1, h2⟩, h3⟩
theorem plan_call {F : Nat → Bool} {l : List Oper} {i : Nat} {o : Oper} {π : Plan} {a : Act} {w : World} (ho : l[i]? = some o)
    (h : ∀ K : Act → Prop, (∀ a', wpPlan P l C F Q π a' w → K a') → Region.wanted o (yielded l.toArray a.tmps) = true ∧ ∃ f args v, (∀ W, C W → (execOp a.eval o).run P W = .ok (.enter f args) W) ∧ (∀ W, C W → Calls P f args W (fun e w' => e = .returned v ∧ W = w')) ∧ K (a.put o.dst v)) : wpPlan P l C F Q (.yes i π) a w := by
  obtain ⟨h1, f, args, v, h2, h3, h4⟩ := h (fun a' => wpPlan P l C F Q π a' w) (fun _ h => h)
  exact ⟨o, v, ho, .inr (.inr ⟨h1, f, args, h2, h3⟩), h4⟩
theorem plan_load {F : Nat → Bool} {l : List Oper} {i : Nat} {o : Oper} {π : Plan} {a : Act} {w : World} (ho : l[i]? = some o) (ty : TypeId) (x : Operand) (hop : o.op = .load ty x) (v : Value)
    (hw : Region.wanted o (yielded l.toArray a.tmps) = true) (hrun : ∀ W, C W → (Instr.loadAt ty (a.eval x)).run P W = .ok v W) (h : wpPlan P l C F Q π (a.put o.dst v) w) : wpPlan P l C F Q (.yes i π) a w :=
  plan_yes ho (fun _ hK => ⟨hw, v, fun W hW => by simp only [execOp, hop, Sem.run_bind, hrun W hW, Result.andThen, Sem.run_pure], hK _ h⟩)
theorem plan_toArray {F : Nat → Bool} {l : List Oper} {i : Nat} {o : Oper} {π : Plan} {a : Act} {w : World} (ho : l[i]? = some o) (ty : TypeId) (x : Operand) (hop : o.op = .sliceToArrayPointer ty x) (v : Value)
    (hw : Region.wanted o (yielded l.toArray a.tmps) = true) (hrun : ∀ W, C W → (Instr.arrayAt ty (a.eval x)).run P W = .ok v W) (h : wpPlan P l C F Q π (a.put o.dst v) w) : wpPlan P l C F Q (.yes i π) a w :=
  plan_yes ho (fun _ hK => ⟨hw, v, fun W hW => by simp only [execOp, hop, Sem.run_bind, hrun W hW, Result.andThen, Sem.run_pure], hK _ h⟩)
theorem stepP_of {l : List Oper} {i : Nat} {o : Oper} {a : Act} {w : World} {K : Act → World → Prop} (ho : l[i]? = some o)
    (h : ∀ K' : Act → World → Prop, (∀ a' w', K a' w' → K' a' w') → wpList P l.toArray (Exit.then K' Q) [o] a w) : wpStepP P l Q i K a w := ⟨o, ho, h K (fun _ _ h => h)⟩
theorem plan_one {F : Nat → Bool} {l : List Oper} {i : Nat} {o : Oper} {π : Plan} {a : Act} {w : World} (ho : l[i]? = some o)
    (h : ∀ K : Act → World → Prop, (∀ a' w', (F i = true → C w') ∧ wpPlan P l C F Q π a' w' → K a' w') → wpList P l.toArray (Exit.then K Q) [o] a w) : wpPlan P l C F Q (.one i π) a w := stepP_of ho h
theorem plan_two {F : Nat → Bool} {l : List Oper} {i j : Nat} {o u : Oper} {p q : Plan} {a : Act} {w : World} (ho : l[i]? = some o) (hu : l[j]? = some u)
    (h1 : ∀ K : Act → World → Prop, (∀ a' w', (F i = true → C w') ∧ wpPlan P l C F Q p a' w' → K a' w') → wpList P l.toArray (Exit.then K Q) [o] a w)
    (h2 : ∀ K : Act → World → Prop, (∀ a' w', (F j = true → C w') ∧ wpPlan P l C F Q q a' w' → K a' w') → wpList P l.toArray (Exit.then K Q) [u] a w) : wpPlan P l C F Q (.two i p j q) a w := ⟨stepP_of ho h1, stepP_of hu h2⟩
/-- The check: c says whether the world is in the class; n operations are left. -/
def planB (md : Region.Mode) (ops : Array Oper) (F : Nat → Bool) : Nat → Bool → Plan → Array Bool → Bool
  | 0, _, .done, listed => (Region.ready md ops listed).isEmpty
  | n + 1, c, .yes i p, listed => c && (Region.ready md ops listed).contains i && Region.free md ops listed i && behindB md ops F i && planB md ops F n c p (listed.setIfInBounds i true)
  | n + 1, c, .one i p, listed => (Region.ready md ops listed == [i]) && planB md ops F n (c && F i) p (listed.setIfInBounds i true)
  | n + 1, c, .two i p j q, listed => (Region.ready md ops listed == [i, j]) && planB md ops F n (c && F i) p (listed.setIfInBounds i true) && planB md ops F n (c && F j) q (listed.setIfInBounds j true)
  | n + 1, c, .three i p j q k r, listed => (Region.ready md ops listed == [i, j, k]) && planB md ops F n (c && F i) p (listed.setIfInBounds i true) && planB md ops F n (c && F j) q (listed.setIfInBounds j true) && planB md ops F n (c && F k) r (listed.setIfInBounds k true)
  | _, _, _, _ => false
theorem wpAnyC_of_plan {F : Nat → Bool} {l : List Oper} (hsel : Region.noSelect l.toArray = true) (hQ : ∀ c a a' w, a.defers = a'.defers → Q (.panic c) a w → Q (.panic c) a' w) :
    ∀ (n : Nat) (π : Plan) (c : Bool) (listed : Array Bool) (a : Act) (w : World), (c = true → C w) → Closed md l.toArray listed → planB md l.toArray F n c π listed = true → wpPlan P l C F Q π a w → wpAnyC P md l.toArray C F Q n listed a w := by
  intro n
  induction n with
  | zero =>
    intro π c listed a w hC hcl hB h
    cases π <;> simp only [planB, Bool.false_eq_true] at hB
    exact ⟨by simpa using hB, h⟩
  | succ n ih =>
    have step : ∀ (i : Nat) (p : Plan) (c : Bool) (listed : Array Bool) (a : Act) (w : World), (c = true → C w) → Closed md l.toArray listed → i ∈ Region.ready md l.toArray listed → planB md l.toArray F n (c && F i) p (listed.setIfInBounds i true) = true →
        wpStepP P l Q i (fun a' w' => (F i = true → C w') ∧ wpPlan P l C F Q p a' w') a w → wpOp P l.toArray Q i (fun a' w' => (F i = true → C w') ∧ wpAnyC P md l.toArray C F Q n (listed.setIfInBounds i true) a' w') a w := by
      intro i p c listed a w hC hcl hr hB ⟨o, ho0, hK⟩
      have ho : l.toArray[i]? = some o := by simpa using ho0
      refine wpOp_mono (fun a' w' h' => ⟨h'.1, ih p (c && F i) _ a' w' (fun hcf => ?_) (hcl.set hr) hB h'.2⟩) (wpOp_of_one ho hK)
      rw [Bool.and_eq_true] at hcf
      exact h'.1 hcf.2
    intro π c listed a w hC hcl hB h
    cases π with
    | done => simp [planB] at hB
    | yes i p =>
      obtain ⟨o, v, ho0, hy, hK⟩ := h
      have ho : l.toArray[i]? = some o := by simpa using ho0
      simp only [planB, Bool.and_eq_true] at hB
      obtain ⟨⟨⟨⟨hc, hr⟩, hf⟩, hb⟩, hrest⟩ := hB
      have hr' : i ∈ Region.ready md l.toArray listed := by simpa using hr
      exact wpAnyC_first ho (Region.noSelect_spec hsel) (fun ch a w h => hQ ch _ _ w (by cases o.dst <;> rfl) h) hb n listed a w (hC hc) hcl (Region.free_spec ho hf) hr' hy (ih p c _ _ _ hC (hcl.set hr') hrest hK)
    | one i p =>
      simp only [planB, Bool.and_eq_true] at hB
      have hr : Region.ready md l.toArray listed = [i] := by simpa using hB.1
      refine ⟨fun h0 => absurd h0 (by rw [hr]; simp), fun j hj => ?_⟩
      obtain rfl : j = i := by rw [hr] at hj; simpa using hj
      exact step j p c listed a w hC hcl hj hB.2 h
    | two i p j q =>
      simp only [planB, Bool.and_eq_true] at hB
      have hr : Region.ready md l.toArray listed = [i, j] := by simpa using hB.1.1
      refine ⟨fun h0 => absurd h0 (by rw [hr]; simp), fun k hk => ?_⟩
      have hk' : k = i ∨ k = j := by rw [hr] at hk; simpa using hk
      rcases hk' with rfl | rfl
      · exact step k p c listed a w hC hcl hk hB.1.2 h.1
      · exact step k q c listed a w hC hcl hk hB.2 h.2
    | three i p j q k r =>
      simp only [planB, Bool.and_eq_true] at hB
      have hr : Region.ready md l.toArray listed = [i, j, k] := by simpa using hB.1.1.1
      refine ⟨fun h0 => absurd h0 (by rw [hr]; simp), fun m hm => ?_⟩
      have hm' : m = i ∨ m = j ∨ m = k := by rw [hr] at hm; simpa using hm
      rcases hm' with rfl | rfl | rfl
      · exact step m p c listed a w hC hcl hm hB.1.1.2 h.1
      · exact step m q c listed a w hC hcl hm hB.1.2 h.2.1
      · exact step m r c listed a w hC hcl hm hB.2 h.2.2
theorem wp_region_plan {id : Nat} {a : Act} {w : World} {l : List Oper} (C : World → Prop) (F : List Nat) (π : Plan) (hm : P.follows .mixedOrders = true) (hQ : ∀ c a a' w, a.defers = a'.defers → Q (.panic c) a w → Q (.panic c) a' w)
    (hB : (Region.noSelect l.toArray && planB .any l.toArray (fun i => F.contains i) l.length true π (Array.replicate l.length false)) = true) (hC : C w.drew) (h : wpPlan P l C (fun i => F.contains i) Q π a w.drew) : (Code.region id l.toArray true).wp P Q a w := by
  simp only [Bool.and_eq_true] at hB
  obtain ⟨hsel, hst⟩ := hB
  refine wp_region_any hm (wpAny_of_C (C := C) (F := fun i => F.contains i) _ _ _ _ ?_)
  have h1 := wpAnyC_of_plan (P := P) (Q := Q) (C := C) (md := .any) hsel hQ l.length π true (Array.replicate l.length false) a w.drew (fun _ => hC) (fun j oj _ hl => by rw [getD_replicate_false] at hl; cases hl) hst h
  have hsz : l.toArray.size = l.length := by simp
  rw [hsz]
  exact h1
end
end Go.Proofs.YthbfodmpoheahaaDoor

/-
  What a leaf put together with a proof is to come to, and what the walks of lift and climb need. Conditions: none; no function is named here.
-/
namespace Go.Proofs.YthbfodmpoheahaaDoor
open Go.RowKit
open Pol (co Sm)

theorem mlift_one (D : List Nat → List Nat) (d : List Nat) {n : Nat} (i : Nat) (ps : List (List Nat)) (h : n < 2) : mlift D d n i ps = if ps = [] then some d else none := by rw [mlift, dif_pos h]
theorem mlift_nil (D : List Nat → List Nat) (d : List Nat) {n : Nat} (i : Nat) (h : 2 ≤ n) : mlift D d n i [] = none := by rw [mlift, dif_neg (by omega)]; rfl
theorem mlift_lo (D : List Nat → List Nat) (d : List Nat) {n : Nat} (i : Nat) (q : List (List Nat)) (x : List Nat) (h : 2 ≤ n) : i < spl n → mlift D d n i (q ++ [x]) = (mlift D d (spl n) i q).map (fun y => nd D y x) := fun hi => by
  rw [mlift, dif_neg (by omega)]
  simp only [List.getLast?_concat, List.dropLast_concat, if_pos hi]
theorem mlift_hi (D : List Nat → List Nat) (d : List Nat) {n : Nat} (i : Nat) (q : List (List Nat)) (x : List Nat) (h : 2 ≤ n) : ¬ i < spl n → mlift D d n i (q ++ [x]) = (mlift D d (n - spl n) (i - spl n) q).map (fun y => nd D x y) := fun hi => by
  rw [mlift, dif_neg (by omega)]
  simp only [List.getLast?_concat, List.dropLast_concat, if_neg hi]
/-- What lift, and climb, do. -/
def LiftS (d : List Nat) (n i : Nat) (ps : List (List Nat)) (w : World) (e : Ending) (w' : World) : Prop :=
  ∃ x ok, e = .returned (.tuple #[dgv x, .bool ok]) ∧ x.length = 32 ∧ Sm x ∧ Ext w w' ∧ mlift sha d n i ps = if ok then some x else none
theorem w64_nat (p : Nat) (h : p ≤ 1048577) : wrap64 (p : Int) = (p : Int) := by unfold wrap64; omega
theorem w64_pred (p : Nat) (h : p ≤ 1048577) : wrap64 (((p + 1 : Nat) : Int) - 1) = (p : Int) := by unfold wrap64; omega
theorem w64_prd (p : Nat) (h : p ≤ 1048577) : wrap64 ((p : Int) + 1 - 1) = (p : Int) := by unfold wrap64; omega
/-- Worlds behind one, with a digest in a block. -/
def AftG (w : World) (g : Nat) (V : Array Value) (W : World) : Prop := Ext w W ∧ W.heap[g]? = some (.cells V 30 (0, 0))
theorem setRow_far {W : World} {g h : Nat} {V U : Array Value} {T : TypeId} {fr : Nat × Nat} (hne : h ≠ g) (hg : W.heap[g]? = some (.cells U T fr)) : (W.setRow h V).heap[g]? = some (.cells U T fr) := by rw [setRow_other W h g V (Ne.symm hne)]; exact hg
theorem i64_nat (p : Nat) (h : p ≤ 1048577) : IntKind.i64.wrap (p : Int) = (p : Int) := by rw [IntKind.wrap_i64]; omega
theorem bt_zero : (bt 32 fun _ => 0) = bt 32 (co (List.replicate 32 0)) := by
  apply Array.ext
  · rw [bt_size, bt_size]
  · intro i h1 h2
    rw [bt_size] at h1
    rw [← Option.some_inj, ← Array.getElem?_eq_getElem, ← Array.getElem?_eq_getElem, bt_at 32 _ i h1, bt_at 32 _ i h1]
    unfold co
    rw [List.getElem?_replicate, if_pos h1]
    rfl
theorem sm_zeros (n : Nat) : Sm (List.replicate n 0) := Pol.co_lt_of fun x hx => by rw [(List.mem_replicate.1 hx).2]; omega
theorem load_blk (W : World) (g : Nat) (d : List Nat) (T : TypeId) (fr : Nat × Nat) (h : W.heap[g]? = some (.cells (bt 32 (co d)) T fr)) :
    (Instr.loadAt 30 (.pointer (some ⟨g, 0, none⟩))).run Tryd.prog W = .ok (dgv d) W :=
  run_load_dig W g 0 d (fun j hj => by rw [cell_of_row W g _ _ _ _ h, Nat.zero_add, bt_at 32 _ j hj])
theorem results_rt {fn : Func} {p u : Tmp} (h : fn.results = #[.cell p 30, .tmp u]) (tmps : Array Value) (w : World) (g : Nat) (t : TypeId) (cs : Array Value) (fr : Nat × Nat)
    (hp : tmps.getD p undef = .pointer (some ⟨g, 0, none⟩)) (hg : w.heap[g]? = some (.cells cs t fr)) (hi : (Tryd.prog.info? 30).map (·.size) = some cs.size) :
    (results fn tmps).run Tryd.prog w = .ok (.tuple #[.agg cs, tmps.getD u undef]) w := by
  have hl := run_loadVar_row w g t 30 cs fr _ hg Tryd.underlying30 rfl hi
  rw [results_cell_tmp h, hp]
  simp [asAddr, Result.andThen, hl]
/-- An empty literal of an array. -/
theorem built_zero : Tryd.prog.built 30 [] = some (bt 32 fun _ => 0) := by kernel_rfl
theorem wpList_build_zero {ops : Array Oper} {rest : List Oper} {o : Oper} {a : Act} {w : World} {Q : Exit → Act → World → Prop} (hg : o.guard = none) (ho : o.op = .build 30 #[]) (Z : Array Value)
    (hz : (bt 32 fun _ => 0) = Z) (h : wpList Tryd.prog ops Q rest (a.put o.dst (.agg Z)) w) : wpList Tryd.prog ops Q (o :: rest) a w :=
  wpList_build_of hg _ #[] ho #[] (by simp) Z (by rw [← hz]; exact built_zero) h
end Go.Proofs.YthbfodmpoheahaaDoor

/-
  Literals of rows, and rows that lie in newer blocks than another one. Conditions: none.
-/
namespace Go.Proofs.YthbfodmpoheahaaDoor
open Go.RowKit
open Pol (co Sm)

theorem rrd_lit (w : World) (vs : List Value) (rows : List (List Nat)) (h : RowsV w vs rows) : RRd (w.alloc (.cells vs.toArray 35)) (some ⟨w.heap.size, 0, none⟩) rows := fun i hi => by
  obtain ⟨B, c, hv, hl, hr⟩ := h.2 i hi
  refine ⟨w.heap.size, 0, B, c, rfl, ?_, hl, hr.ext ((Ext.refl _).alloc _)⟩
  rw [cell_of_row _ _ _ _ _ _ (heap_alloc_new w _), Nat.zero_add]
  simpa using hv
theorem rowsV_one {w : World} {v : Value} {l : List Nat} (h : Sl w v l) : RowsV w [v] [l] := ⟨rfl, fun i hi => by
  match i, hi with
  | 0, _ =>
    obtain ⟨B, c, rfl, hc, hr⟩ := h
    exact ⟨B, c, rfl, hc, hr⟩⟩
theorem take_ro (rows : List (List Nat)) (k : Nat) (h : k < rows.length) : rows.take (k + 1) = rows.take k ++ [ro rows k] := by
  rw [List.take_succ_eq_append_getElem h]
  unfold ro
  rw [List.getElem?_eq_getElem h]
  rfl
/-- A literal of one row, whose bytes lie in a block that is new: it lies in no elder block. -/
theorem far_one {w : World} {v : Value} {l : List Nat} {base : Nat} (hm : Mine w base v l) (row : Option Nat) (hrow : ∀ k, row = some k → k < base) (g : Nat) (hg : g = w.heap.size) :
    ∀ i, i < [l].length → ∀ b o n c, (∃ b' o', (some ⟨g, 0, none⟩ : Option Addr) = some ⟨b', o', none⟩ ∧ (w.alloc (.cells #[v] 35)).cell? ⟨b', o' + i, none⟩ = some (.slice (some ⟨b, o, none⟩) n c)) → 0 < n → some b ≠ row := by
  rintro i hi b o n c ⟨b', o', e, hc⟩ hn e'
  subst hg
  injection e with e
  injection e with e1 e2
  subst e1; subst e2
  have hi0 : i = 0 := by simpa using hi
  subst hi0
  rw [cell_of_row _ _ _ _ _ _ (heap_alloc_new w _)] at hc
  have hv : v = .slice (some ⟨b, o, none⟩) n c := by simpa using hc
  have hb := World.ownsRow.lt hm b (by rw [hv]; rfl)
  have := hrow b e'.symm
  omega
end Go.Proofs.YthbfodmpoheahaaDoor

/-
  Slices of rows of a call's own, whose rows lie in blocks of the call's own too: a literal of one row, and what append does. Conditions: the lengths add up to no more than 2^20.
-/
namespace Go.Proofs.YthbfodmpoheahaaDoor
open Go.RowKit
open Pol (co Sm)

/-- All of them lie in blocks from base on. -/
def New (vs : List Value) (base : Nat) : Prop := ∀ (i b o n c : Nat), vs[i]? = some (.slice (some ⟨b, o, none⟩) n c) → 0 < n → base ≤ b
structure MineN (w : World) (base : Nat) (v : Value) (rows : List (List Nat)) : Prop where
  has : ∃ vs, w.ownsRow base 35 1 v rows.length vs ∧ RowsV w vs rows ∧ Far vs v.ownBlock ∧ New vs base
theorem MineN.toR {w : World} {base : Nat} {v : Value} {rows : List (List Nat)} (h : MineN w base v rows) : MineR w base v rows := by
  obtain ⟨vs, h1, h2, h3, _⟩ := h.has
  exact ⟨vs, h1, h2, h3⟩
theorem MineN.slice {w : World} {base : Nat} {v : Value} {rows : List (List Nat)} (h : MineN w base v rows) : ∃ A c, v = .slice A rows.length c ∧ rows.length ≤ c ∧ RRd w A rows := h.toR.slice
theorem MineN.block {w : World} {base : Nat} {v : Value} {rows : List (List Nat)} (h : MineN w base v rows) : ∀ k, v.ownBlock = some k → base ≤ k ∧ k < w.heap.size := h.toR.block
theorem MineN.ext {w w' : World} {base : Nat} {v : Value} {rows : List (List Nat)} (h : MineN w base v rows) (hx : Ext w w') : MineN w' base v rows := by
  obtain ⟨vs, hown, hv, hf, hn⟩ := h.has
  refine ⟨vs, World.ownsRow.kept hown (row := none) ⟨hx.below.os, hx.below.tape, hx.below.output, hx.below.size, fun k hk _ => hx.below.block k hk⟩ (by
    cases hb : v.ownBlock with
    | none => exact .inl rfl
    | some k => exact .inr (by simp)), hv.ext hx, hf, hn⟩
theorem MineN.down {w : World} {base base' : Nat} {v : Value} {rows : List (List Nat)} (h : MineN w base v rows) (hb : base' ≤ base) : MineN w base' v rows := by
  obtain ⟨vs, hown, hv, hf, hn⟩ := h.has
  exact ⟨vs, ⟨hown.1, hown.2.imp id fun ⟨g, cap, cur, h1, h2, h3⟩ => ⟨g, cap, cur, h1, Nat.le_trans hb h2, h3⟩⟩, hv, hf, fun i b o n c e h0 => Nat.le_trans hb (hn i b o n c e h0)⟩
theorem MineN.nil (w : World) (base : Nat) : MineN w base (.slice none 0 0) [] :=
  ⟨[], World.ownsRow_nil w base _ _, ⟨rfl, fun i hi => absurd hi (by simp)⟩, fun i b o n c h => by simp at h, fun i b o n c h => by simp at h⟩
theorem mineN_lit {w : World} {base : Nat} {v : Value} {l : List Nat} (hm : Mine w base v l) (hs : Sm l) (hb : base ≤ w.heap.size) :
    MineN (w.alloc (.cells #[v] 35)) base (.slice (some ⟨w.heap.size, 0, none⟩) 1 1) [l] := by
  obtain ⟨B, c, e, hc, hr⟩ := hm.slice hs
  have hz : ∀ (i b o n c' : Nat), [v][i]? = some (.slice (some ⟨b, o, none⟩) n c') → base ≤ b ∧ b < w.heap.size := fun i b o n c' h => by
    have hi : i < 1 := by
      have := (List.getElem?_eq_some_iff.1 h).1
      simpa using this
    obtain rfl : i = 0 := by omega
    have hv : v = .slice (some ⟨b, o, none⟩) n c' := by simpa using h
    exact World.ownsRow.lt hm b (by rw [hv]; rfl)
  refine ⟨[v], World.ownsRow_lit w #[v] 1 hb (by unfold maxLen; omega) rfl, ⟨rfl, fun i hi => ?_⟩, fun i b o n c' h _ e' => ?_, fun i b o n c' h _ => (hz i b o n c' h).1⟩
  · match i, hi with
    | 0, _ => exact ⟨B, c, by rw [e]; rfl, hc, hr.ext ((Ext.refl _).alloc _)⟩
  · have := (hz i b o n c' h).2
    have e2 : some b = some w.heap.size := e'
    injection e2 with e2
    omega
theorem grown_setRow (w : World) (g : Nat) (V : Array Value) : w.grownBy (w.setRow g V) (some g) :=
  ⟨rfl, rfl, rfl, by simp [World.setRow], fun k _ hne => setRow_other w g k V (fun e => hne (by rw [e]))⟩
theorem MineN.keep {w w' : World} {base g : Nat} {v : Value} {rows : List (List Nat)} (h : MineN w base v rows) (hg : w.grownBy w' (some g)) (hlt : g < base) : MineN w' base v rows := by
  have hbl := h.block
  obtain ⟨vs, hown, hv, hf, hn⟩ := h.has
  refine ⟨vs, World.ownsRow.kept hown hg (by
    cases hb : v.ownBlock with
    | none => exact .inl rfl
    | some k => exact .inr (fun e => by injection e with e; have := (hbl k hb).1; omega)), hv.keep hg (fun i b o n c e h0 e' => by injection e' with e'; have := hn i b o n c e h0; omega), hf, hn⟩
set_option maxRecDepth 100000 in
theorem run_append_rowsN (w : World) (base base2 : Nat) (ty : TypeId) (v u : Value) (rows more : List (List Nat)) (hown : MineN w base v rows) (hmore : MineN w base2 u more)
    (hvb : ∀ k, v.ownBlock = some k → k < base2) (hb : base ≤ base2) (hlen : rows.length + more.length ≤ 1048576) (hbase : base ≤ w.heap.size) :
    ∃ v' w', (Builtin.append_ #[22, 22] ty #[v, u]).run Tryd.prog w = .ok v' w' ∧ MineN w' base v' (rows ++ more) ∧ w.grownBy w' v.ownBlock ∧ (v'.ownBlock = v.ownBlock ∨ v'.ownBlock = some w.heap.size) := by
  obtain ⟨i0, hi, hz0, hz1, hz2⟩ := info_parts row_info
  obtain ⟨vs, hv1, hv2, hv3, hv4⟩ := hown.has
  obtain ⟨us, hu, hu1, hu3, hu4⟩ := hmore.has
  have hut := hu.2
  rcases hut with ⟨rfl, hn⟩ | ⟨g, cap, cur, rfl, hgb, hg, hnc, _, _, htake⟩
  · have hm : more = [] := List.eq_nil_of_length_eq_zero hn
    subst hm
    refine ⟨v, w, ?_, by simpa using hown, ⟨rfl, rfl, rfl, Nat.le_refl _, fun _ _ _ => rfl⟩, .inl rfl⟩
    rcases hv1.2 with ⟨rfl, _⟩ | ⟨g, cap, cur, rfl, _, _, hnc, _⟩
    · simp [Builtin.append_, run_underlying Tryd.underlying22, sizeOf, typeInfo, hi, Builtin.lenOf, Builtin.firstCells]
    · simp [Builtin.append_, run_underlying Tryd.underlying22, sizeOf, typeInfo, hi, Builtin.lenOf, Builtin.firstCells, hnc, storeCells]
  · have hcells : ∀ j x, us[j]? = some x → w.cell? ((⟨g, 0, none⟩ : Addr).add j) = some x := by
      intro j x hx
      have hj : j < more.length := by
        have := (List.getElem?_eq_some_iff.1 hx).1
        rwa [hu1.1] at this
      rw [addr_add, Nat.zero_add, cell_of_row w g j cur _ _ hg, ← hx, ← htake, List.getElem?_take, if_pos (by omega)]
      simp
    obtain ⟨v', w', h1, h2, h3, _, h5⟩ := run_append_own_at (P := Tryd.prog) w base 22 ty 35 i0 (.slice none 0 0) 1 24 Tryd.underlying22 hi hz0 hz1 hz2 rfl (by omega) v rows.length vs hv1 ⟨g, 0, none⟩ more.length cap us (by rw [hu1.1, Nat.mul_one]) hcells hu1.one
      (by unfold maxLen; omega) (by omega) hbase
    have hfu : Far us v.ownBlock := fun i b o n c' hx hn e' => by
      have h6 := hu4 i b o n c' hx hn
      have h7 := hvb b e'.symm
      omega
    refine ⟨v', w', h1, ⟨vs ++ us, by rw [List.length_append]; exact h2, (hv2.append hu1).keep h3 ?_, ?_, ?_⟩, h3, h5⟩
    · intro i b o n c' hx hn
      by_cases hl : i < vs.length
      · rw [List.getElem?_append_left hl] at hx
        exact hv3 i b o n c' hx hn
      · rw [List.getElem?_append_right (by omega)] at hx
        exact hfu _ b o n c' hx hn
    · intro i b o n c' hx hn
      rcases h5 with e | e
      · rw [e]
        by_cases hl : i < vs.length
        · rw [List.getElem?_append_left hl] at hx
          exact hv3 i b o n c' hx hn
        · rw [List.getElem?_append_right (by omega)] at hx
          exact hfu _ b o n c' hx hn
      · rw [e]
        have hb : b < w.heap.size := (hv2.append hu1).lt hx hn
        exact fun e' => by injection e' with e'; omega
    · intro i b o n c' hx hn
      by_cases hl : i < vs.length
      · rw [List.getElem?_append_left hl] at hx
        exact hv4 i b o n c' hx hn
      · rw [List.getElem?_append_right (by omega)] at hx
        exact Nat.le_trans hb (hu4 _ b o n c' hx hn)
/-- At the operation, for the walk. -/
theorem wpList_append_rowsN {ops : Array Oper} {rest : List Oper} {o : Oper} {a : Act} {w : World} {Q : Exit → Act → World → Prop} (hgd : o.guard = none) (s x : Operand)
    (ho : o.op = .call { callee := .builtin .append, args := #[s, x], argTypes := #[22, 22] })
    (base base2 : Nat) (v u : Value) (rows more : List (List Nat)) (hs : a.eval s = v) (hx : a.eval x = u) (hown : MineN w base v rows) (hmore : MineN w base2 u more)
    (hvb : ∀ k, v.ownBlock = some k → k < base2) (hb : base ≤ base2) (hlen : rows.length + more.length ≤ 1048576) (hbase : base ≤ w.heap.size)
    (h : ∀ v' w', MineN w' base v' (rows ++ more) → w.grownBy w' v.ownBlock → (v'.ownBlock = v.ownBlock ∨ v'.ownBlock = some w.heap.size) → wpList Tryd.prog ops Q rest (a.put o.dst v') w') :
    wpList Tryd.prog ops Q (o :: rest) a w := by
  refine wpList_plain hgd fun K hK => ?_
  obtain ⟨v', w', hrun, h2, h3, h4⟩ := run_append_rowsN w base base2 o.type v u rows more hown hmore hvb hb hlen hbase
  unfold Oper.wp execOp
  simp only [ho, resolve, invoke, builtin, Sem.run_bind, Sem.run_pure, Result.andThen_ok, List.map_toArray, List.map_cons, List.map_nil, hs, hx, hrun]
  exact hK _ _ (h v' w' h2 h3 h4)
end Go.Proofs.YthbfodmpoheahaaDoor

/-
  What inner of layer 11's laws does, of no text and of one. Conditions: no more than 2^16 - 1 bytes.
-/
namespace Go.Proofs.YthbfodmpoheahaaDoor
open Go.RowKit
open Pol (co Sm)

/-- What inner does. -/
def InnerS (rows : List (List Nat)) (w : World) (e : Ending) (w' : World) : Prop := ∃ v, e = .returned v ∧ MineN w' w.heap.size v (minn sha rows) ∧ Ext w w'
set_option maxHeartbeats 1600000 in
set_option maxRecDepth 100000 in
theorem law11_inner_nil (A : Option Addr) (c : Nat) (w : World) : Calls Tryd.prog 35 #[.slice A 0 c] w (InnerS [] w) := by
  unfold InnerS
  rw [minn_nil]
  obtain ⟨g0, hg0⟩ : ∃ g, w.heap.size = g := ⟨_, rfl⟩
  have HM := Lib.hid (show Mine (w.alloc (.cells #[] 5)) g0 (.slice (some ⟨g0, 0, none⟩) 0 0) [] from by rw [← hg0]; exact mine_empty w)
  have HN := Lib.hid (mineN_lit HM.out Sm.nil (show g0 ≤ (w.alloc (.cells #[] 5)).heap.size from by simp; omega))
  have HX := Lib.hid (((Ext.refl w).alloc (.cells #[] 5)).alloc (.cells #[.slice (some ⟨g0, 0, none⟩) 0 0] 35))
  have HW := Lib.hid (show (w.alloc (.cells #[] 5)).heap.size = g0 + 1 from by simp [hg0])
  rw [HW.out] at HN
  go_enter Tryd.func35, Tryd.ntmps35
  go_wp2
  go_ret
  exact ⟨_, rfl, by rw [hg0]; exact HN.out, HX.out⟩
set_option maxHeartbeats 1600000 in
set_option maxRecDepth 100000 in
theorem law11_inner_one (t : List Nat) (A : Option Addr) (c : Nat) (w : World) (hr : RRd w A [t]) (hl : t.length ≤ 65535) : Calls Tryd.prog 35 #[.slice A 1 c] w (InnerS [t] w) := by
  unfold InnerS
  rw [minn_one]
  obtain ⟨g0, hg0⟩ : ∃ g, w.heap.size = g := ⟨_, rfl⟩
  obtain ⟨b, o, B, ct, rfl, hc0, hl0, hrt⟩ := hr 0 (by simp)
  have e0 : ro [t] 0 = t := rfl
  rw [e0] at hc0 hl0 hrt
  rw [Nat.add_zero] at hc0
  have HRT := Lib.hid hrt
  have HT := Lib.hid (show ([0] ++ t).length = t.length + 1 ∧ Sm ([0] ++ t) from ⟨by simp, sm_app (fun i => by match i with | 0 => decide | i + 1 => simp [co]) hrt.1⟩)
  have HNN := Lib.hid (show ([0] ++ t : List Nat) = 0 :: t from rfl)
  have HLN := Lib.hid (show [0].length + t.length ≤ 140737488355328 from by simp; omega)
  obtain ⟨m, hm⟩ : ∃ m, t.length = m := ⟨_, rfl⟩
  have HTL := Lib.hid hm
  rw [hm] at hc0 hl0 hl HT
  have HM0 := Lib.hid (show Mine (w.alloc (.cells #[.int .u8 0] 5)) g0 (.slice (some ⟨g0, 0, none⟩) 1 1) [0] from by rw [← hg0]; exact mine_lit11 w [0] (by decide))
  have HX1 := Lib.hid ((Ext.refl w).alloc (.cells #[.int .u8 0] 5))
  have HS1 := Lib.hid (show g0 ≤ (w.alloc (.cells #[.int .u8 0] 5)).heap.size from by simp; omega)
  have HW0 := Lib.hid hg0
  have hc1 : (w.alloc (.cells #[.int .u8 0] 5)).cell? ⟨b, o, none⟩ = some (.slice B m ct) := (HX1.out.below.cell (p := ⟨b, o, none⟩) (block_lt_of_cell hc0)).trans hc0
  clear hm hr hrt hl
  go_enter Tryd.func35, Tryd.ntmps35
  go_wp2_with (at_builtin; go_loud (refine wpList_append_rd rfl (.tmp 15) (.tmp 18) rfl g0 _ [0] t rfl HM0.out B m ct rfl HTL.out (HRT.out.ext HX1.out) HLN.out HS1.out ?_; intro v5 w5 hm5 hg5 hb5; have hx5 := HX1.out.more hg5 (fun k e => by injection e with e; rw [← e, HW0.out]; exact Nat.le_refl _); have hs5 := hx5.size; obtain ⟨B5, c5, rfl, hc5, hr5⟩ := hm5.slice HT.out.2; have hn5 := mineN_lit hm5 HT.out.2 (show g0 ≤ w5.heap.size from by have := HW0.out; omega); rw [HT.out.1] at hn5 ⊢; have HX7 := Lib.hid (hx5.alloc (.cells #[.slice B5 (m + 1) c5] 35)); have HN7 := Lib.hid (hn5.down (base' := w.heap.size) (by have := HW0.out; omega)); clear hm5 hg5 hb5 hc5 hr5 hn5 hx5 hs5))
  go_ret
  exact ⟨_, rfl, HN7.out, HX7.out⟩
end Go.Proofs.YthbfodmpoheahaaDoor

/-
  A plan's step where three operations may come up next. Conditions: none; no function is named here.
-/
namespace Go.Proofs.YthbfodmpoheahaaDoor
open Go
section
variable {P : Program} {Q : Exit → Act → World → Prop} {C : World → Prop}
theorem plan_three {F : Nat → Bool} {l : List Oper} {i j k : Nat} {o u v : Oper} {p q r : Plan} {a : Act} {w : World} (ho : l[i]? = some o) (hu : l[j]? = some u) (hv : l[k]? = some v)
    (h1 : ∀ K : Act → World → Prop, (∀ a' w', (F i = true → C w') ∧ wpPlan P l C F Q p a' w' → K a' w') → wpList P l.toArray (Exit.then K Q) [o] a w)
    (h2 : ∀ K : Act → World → Prop, (∀ a' w', (F j = true → C w') ∧ wpPlan P l C F Q q a' w' → K a' w') → wpList P l.toArray (Exit.then K Q) [u] a w)
    (h3 : ∀ K : Act → World → Prop, (∀ a' w', (F k = true → C w') ∧ wpPlan P l C F Q r a' w' → K a' w') → wpList P l.toArray (Exit.then K Q) [v] a w) : wpPlan P l C F Q (.three i p j q k r) a w := ⟨stepP_of ho h1, stepP_of hu h2, stepP_of hv h3⟩
end
end Go.Proofs.YthbfodmpoheahaaDoor

/-
  Part 2 of the texts that the seat's proofs stand on; each part of it begins with its own sentence and conditions. Conditions: those that each theorem names.
-/
import Derived.Test.YtnfgokbopndmgaaBackPack1
import Derived.StillTail
import Derived.Lib.Hide

/-
  A region that draws its order, some of whose operations only read what stays: these may be taken ahead of the others, and the others come one after the other. Conditions: a check of the region's text (by the kernel); of no program in particular.
-/
namespace Go.Proofs.Ytnfgokbopndmgaa
open Go

section
variable {P : Program} {ops : Array Oper} {Q : Exit → Act → World → Prop} {md : Region.Mode} {C : World → Prop}

/-- In every world of the class the operation yields v and leaves the world alone. -/
def YieldsC (P : Program) (ops : Array Oper) (C : World → Prop) (o : Oper) (v : Value) (a : Act) : Prop :=
  (Region.wanted o (yielded ops a.tmps) = true ∧ ∀ w, C w → (execOp a.eval o).run P w = .ok (.value v) w) ∨ (Region.wanted o (yielded ops a.tmps) = false ∧ v = undef) ∨
    (Region.wanted o (yielded ops a.tmps) = true ∧ ∃ f args, (∀ w, C w → (execOp a.eval o).run P w = .ok (.enter f args) w) ∧ ∀ w, C w → Calls P f args w (fun e w' => e = .returned v ∧ w = w'))
theorem YieldsC.wpOp {i : Nat} {o : Oper} {v : Value} {a : Act} (hi : ops[i]? = some o) (hy : YieldsC P ops C o v a) {K : Act → World → Prop} {w : World} (hw : C w) (h : K (a.put o.dst v) w) : wpOp P ops Q i K a w := by
  unfold Go.wpOp
  simp only [hi]
  rcases hy with ⟨hg, hv⟩ | ⟨hg, rfl⟩ | ⟨hg, f, args, hv, hc⟩
  · simp only [hg, if_true, Oper.wp, hv w hw, Oper.upon]; exact .inl h
  · simp only [hg, Bool.false_eq_true, if_false]; exact h
  · simp only [hg, if_true, Oper.wp, hv w hw, Oper.upon]
    refine .inl (Calls.mono (hc w hw) ?_)
    rintro e w' ⟨rfl, rfl⟩
    exact h
theorem YieldsC.of_same {o : Oper} {v : Value} {a a' : Act} (hy : YieldsC P ops C o v a) (he : execOp a'.eval o = execOp a.eval o) (hw : Region.wanted o (yielded ops a'.tmps) = Region.wanted o (yielded ops a.tmps)) : YieldsC P ops C o v a' := by
  unfold YieldsC at *
  rw [he, hw]
  exact hy
theorem wpOp_putC {j : Nat} {oi oj : Oper} {v : Value} (hj : ops[j]? = some oj) (hap : oi.apart ops oj = true) (hsi : ∀ cs b, oi.op ≠ .select cs b) (hsj : ∀ cs b, oj.op ≠ .select cs b)
    (hQ : ∀ c a w, Q (.panic c) (a.put oi.dst v) w → Q (.panic c) a w) {K : Act → World → Prop} {a : Act} {w : World} (hy : YieldsC P ops C oi v a) (h : wpOp P ops Q j K (a.put oi.dst v) w) :
    wpOp P ops Q j (fun a' w' => YieldsC P ops C oi v a' ∧ K (a'.put oi.dst v) w') a w := by
  obtain ⟨h1, h2, h3⟩ := Oper.apart_spec hap
  have keep : ∀ (a : Act), YieldsC P ops C oi v a → ∀ u, YieldsC P ops C oi v (a.put oj.dst u) := fun a hy u => hy.of_same (execOp_put oi hsi a oj.dst u h3) (wanted_put oi a oj.dst u h3)
  have keepD : ∀ d, YieldsC P ops C oi v { a with defers := d :: a.defers } := fun d => hy.of_same rfl rfl
  unfold wpOp at *
  simp only [hj] at *
  rw [wanted_put oj a oi.dst v h1] at h
  split
  · rename_i hw
    simp only [hw, if_true] at h
    rcases h with h | ⟨hasks, hlets⟩
    case inr => exact .inr ⟨by unfold Oper.asks at *; rw [execOp_put oj hsj a oi.dst v h1] at hasks; exact hasks, hlets⟩
    refine .inl ?_
    unfold Oper.wp at *
    rw [execOp_put oj hsj a oi.dst v h1] at h
    generalize (execOp a.eval oj).run P w = r at *
    cases r with
    | ok n w' =>
      cases n <;> simp only [Oper.upon] at h ⊢
      case value u => exact ⟨keep a hy u, by rw [← Act.put_comm a v u h2]; exact h⟩
      case skip => exact ⟨keep a hy _, by rw [← Act.put_comm a v undef h2]; exact h⟩
      case defer d =>
        refine ⟨keep _ (keepD d) _, ?_⟩
        rw [← Act.put_comm _ v undef h2, ← Act.put_defers]
        exact h
      case enter f args =>
        refine Calls.mono h fun e w'' he => ?_
        cases e with
        | returned u => exact ⟨keep a hy u, by rw [← Act.put_comm a v u h2]; exact he⟩
        | panicked c => exact hQ _ _ _ he
        | outgrown => exact he
      case row row args => exact Rows.mono h fun u w'' he => ⟨keep a hy u, by rw [← Act.put_comm a v u h2]; exact he⟩
    | halt x w' =>
      cases x <;> simp only [Oper.upon] at h ⊢
      case panic u => exact hQ _ _ _ h
  · rename_i hw
    simp only [hw] at h
    exact ⟨keep a hy _, by rw [← Act.put_comm a v undef h2]; exact h⟩

/-- As wpAny, and the operations of F leave the world in the class. -/
def wpAnyC (P : Program) (md : Region.Mode) (ops : Array Oper) (C : World → Prop) (F : Nat → Bool) (Q : Exit → Act → World → Prop) : Nat → Array Bool → Act → World → Prop
  | 0, listed, a, w => Region.ready md ops listed = [] ∧ Q .normal a w
  | fuel + 1, listed, a, w => (Region.ready md ops listed = [] → Q .normal a w) ∧ ∀ i ∈ Region.ready md ops listed, wpOp P ops Q i (fun a' w' => (F i = true → C w') ∧ wpAnyC P md ops C F Q fuel (listed.setIfInBounds i true) a' w') a w
theorem wpAny_of_C {F : Nat → Bool} : ∀ (fuel : Nat) (listed : Array Bool) (a : Act) (w : World), wpAnyC P md ops C F Q fuel listed a w → wpAny P md ops Q fuel listed a w
  | 0, _, _, _, h => h
  | fuel + 1, _, _, _, h => ⟨h.1, fun i hi => wpOp_mono (fun a' w' h' => wpAny_of_C fuel _ a' w' h'.2) (h.2 i hi)⟩
/-- What is listed waits for nothing that is not. -/
def Closed (md : Region.Mode) (ops : Array Oper) (listed : Array Bool) : Prop := ∀ j oj, ops[j]? = some oj → listed.getD j false = true → ∀ e ∈ oj.after, Region.binds md e = true → listed.getD e.on false = true
theorem Closed.set {listed : Array Bool} (h : Closed md ops listed) {i : Nat} (hi : i ∈ Region.ready md ops listed) : Closed md ops (listed.setIfInBounds i true) := fun j oj hoj hl e he hb => by
  by_cases hji : j = i
  · subst hji
    obtain ⟨_, o, ho, hall⟩ := mem_ready.1 hi
    rw [hoj] at ho
    injection ho with ho
    subst ho
    exact getD_set_true (hall e he hb)
  · rw [getD_set_ne false (fun h => hji h.symm)] at hl
    exact getD_set_true (h j oj hoj hl e he hb)
/-- What stands behind i; what is not of F does. -/
def bhStep (md : Region.Mode) (ops : Array Oper) (i : Nat) (acc : List Nat) (j : Nat) : List Nat :=
  match ops[j]? with
  | some oj => if oj.after.any (fun e => Region.binds md e && (e.on == i || acc.contains e.on)) then j :: acc else acc
  | none => acc
def behindB (md : Region.Mode) (ops : Array Oper) (F : Nat → Bool) (i : Nat) : Bool :=
  (List.range ops.size).all fun j => j == i || F j || ((List.range ops.size).foldl (bhStep md ops i) []).contains j
theorem bh_fold {i : Nat} {listed : Array Bool} (hc : Closed md ops listed) (hi : listed.getD i false = false) : ∀ (l acc : List Nat), (∀ j ∈ acc, listed.getD j false = false ∧ j ∉ Region.ready md ops listed) →
    ∀ j ∈ l.foldl (bhStep md ops i) acc, listed.getD j false = false ∧ j ∉ Region.ready md ops listed
  | [], acc, h => h
  | k :: l, acc, h => by
    refine bh_fold hc hi l (bhStep md ops i acc k) ?_
    unfold bhStep
    cases hk : ops[k]? with
    | none => exact h
    | some ok =>
      simp only
      split
      · rename_i hany
        intro j hj
        rcases List.mem_cons.1 hj with e | e
        · subst e
          obtain ⟨e, he, hb⟩ := Array.any_eq_true'.1 hany
          simp only [Bool.and_eq_true, Bool.or_eq_true, beq_iff_eq] at hb
          have hno : listed.getD e.on false = false := by
            rcases hb.2 with h2 | h2
            · rw [h2]; exact hi
            · exact (h e.on (by simpa using h2)).1
          constructor
          · cases hl : listed.getD j false with
            | false => rfl
            | true =>
              have := hc j ok hk hl e he hb.1
              rw [hno] at this
              cases this
          · intro hr
            obtain ⟨_, o, ho, hall⟩ := mem_ready.1 hr
            rw [hk] at ho
            injection ho with ho
            subst ho
            have := hall e he hb.1
            rw [hno] at this
            cases this
        · exact h j e
      · exact h
theorem behind_not {F : Nat → Bool} {i : Nat} (hB : behindB md ops F i = true) {listed : Array Bool} (hc : Closed md ops listed) (hi : listed.getD i false = false) :
    ∀ j, j < ops.size → j ≠ i → F j = false → listed.getD j false = false ∧ j ∉ Region.ready md ops listed := fun j hj hji hF => by
  have h1 := List.all_eq_true.1 hB j (List.mem_range.2 hj)
  simp only [hF, Bool.or_false, Bool.or_eq_true, beq_iff_eq, hji, false_or] at h1
  exact bh_fold hc hi _ [] (fun _ h => absurd h (by simp)) j (by simpa using h1)

theorem wpAnyC_first {F : Nat → Bool} {i : Nat} {oi : Oper} {v : Value} (hi : ops[i]? = some oi) (hsel : ∀ (j : Nat) (o : Oper) cs b, ops[j]? = some o → o.op ≠ .select cs b)
    (hQ : ∀ c a w, Q (.panic c) (a.put oi.dst v) w → Q (.panic c) a w) (hB : behindB md ops F i = true) :
    ∀ (fuel : Nat) (listed : Array Bool) (a : Act) (w : World), C w → Closed md ops listed →
      (∀ j oj, ops[j]? = some oj → j ≠ i → listed.getD j true = false → (∀ e ∈ oj.after, Region.binds md e = true → e.on ≠ i) → oi.apart ops oj = true) →
      i ∈ Region.ready md ops listed → YieldsC P ops C oi v a →
      wpAnyC P md ops C F Q fuel (listed.setIfInBounds i true) (a.put oi.dst v) w → wpAnyC P md ops C F Q (fuel + 1) listed a w := by
  intro fuel
  induction fuel with
  | zero =>
    intro listed a w hC _ _ hr hy H
    refine ⟨fun h => (by rw [h] at hr; cases hr), fun j hj => ?_⟩
    by_cases hji : j = i
    · subst hji; exact hy.wpOp hi hC ⟨fun _ => hC, H⟩
    · have := ready_mono hj hji
      rw [H.1] at this
      cases this
  | succ fuel ih =>
    intro listed a w hC hcl hfree hr hy H
    refine ⟨fun h => (by rw [h] at hr; cases hr), fun j hj => ?_⟩
    by_cases hji : j = i
    · subst hji; exact hy.wpOp hi hC ⟨fun _ => hC, H⟩
    · have h1 := H.2 j (ready_mono hj hji)
      obtain ⟨hjun, oj, hoj, hall⟩ := mem_ready.1 hj
      have hiun := (mem_ready.1 hr).1
      have hnot : ∀ e ∈ oj.after, Region.binds md e = true → e.on ≠ i := fun e he hb heq => by
        have h1 := hall e he hb
        rw [heq, getD_both hiun] at h1
        cases h1
      have hFj : F j = true := by
        cases hF : F j with
        | true => rfl
        | false => exact absurd hj (behind_not hB hcl (getD_both hiun) j (Array.getElem?_eq_some_iff.1 hoj).1 hji hF).2
      have h2 := wpOp_putC hoj (hfree j oj hoj hji hjun hnot) (fun cs b => hsel i oi cs b hi) (fun cs b => hsel j oj cs b hoj) hQ hy h1
      have hfree' : ∀ k ok, ops[k]? = some ok → k ≠ i → (listed.setIfInBounds j true).getD k true = false →
          (∀ e ∈ ok.after, Region.binds md e = true → e.on ≠ i) → oi.apart ops ok = true := fun k ok hk hki hun hno => by
        refine hfree k ok hk hki ?_ hno
        by_cases hjk : j = k
        · subst hjk; exact hjun
        · rw [getD_set_ne true hjk] at hun; exact hun
      refine wpOp_mono (fun a' w' h3 => ⟨fun _ => h3.2.1 hFj, ih (listed.setIfInBounds j true) a' w' (h3.2.1 hFj) (hcl.set hj) hfree' (ready_mono hr (Ne.symm hji)) h3.1 ?_⟩) h2
      rw [Array.setIfInBounds_comm _ _ hji]
      exact h3.2.2

/-- The walk: an operation that only reads what stays (true), or the only one that may come up (false). -/
def wpStab (P : Program) (l : List Oper) (C : World → Prop) (F : Nat → Bool) (Q : Exit → Act → World → Prop) : List (Nat × Bool) → Act → World → Prop
  | [], a, w => wpList P l.toArray Q [] a w
  | (i, true) :: π, a, w => ∃ o v, l[i]? = some o ∧ YieldsC P l.toArray C o v a ∧ wpStab P l C F Q π (a.put o.dst v) w
  | (i, false) :: π, a, w => ∃ o, l[i]? = some o ∧ wpList P l.toArray (Exit.then (fun a' w' => (F i = true → C w') ∧ wpStab P l C F Q π a' w') Q) [o] a w
theorem stab_yes {F : Nat → Bool} {l : List Oper} {i : Nat} {o : Oper} {π : List (Nat × Bool)} {a : Act} {w : World} (ho : l[i]? = some o)
    (h : ∀ K : Act → Prop, (∀ a', wpStab P l C F Q π a' w → K a') → Region.wanted o (yielded l.toArray a.tmps) = true ∧ ∃ v, (∀ W, C W → (execOp a.eval o).run P W = .ok (.value v) W) ∧ K (a.put o.dst v)) : wpStab P l C F Q ((i, true) :: π) a w := by
  obtain ⟨h1, v, h2, h3⟩ := h (fun a' => wpStab P l C F Q π a' w) (fun _ h => h)
  exact ⟨o, v, ho, .inl ⟨h1, h2⟩, h3⟩
theorem stab_call {F : Nat → Bool} {l : List Oper} {i : Nat} {o : Oper} {π : List (Nat × Bool)} {a : Act} {w : World} (ho : l[i]? = some o)
    (h : ∀ K : Act → Prop, (∀ a', wpStab P l C F Q π a' w → K a') → Region.wanted o (yielded l.toArray a.tmps) = true ∧ ∃ f args v, (∀ W, C W → (execOp a.eval o).run P W = .ok (.enter f args) W) ∧ (∀ W, C W → Calls P f args W (fun e w' => e = .returned v ∧ W = w')) ∧ K (a.put o.dst v)) : wpStab P l C F Q ((i, true) :: π) a w := by
  obtain ⟨h1, f, args, v, h2, h3, h4⟩ := h (fun a' => wpStab P l C F Q π a' w) (fun _ h => h)
  exact ⟨o, v, ho, .inr (.inr ⟨h1, f, args, h2, h3⟩), h4⟩
theorem stab_one {F : Nat → Bool} {l : List Oper} {i : Nat} {o : Oper} {π : List (Nat × Bool)} {a : Act} {w : World} (ho : l[i]? = some o)
    (h : ∀ K : Act → World → Prop, (∀ a' w', (F i = true → C w') ∧ wpStab P l C F Q π a' w' → K a' w') → wpList P l.toArray (Exit.then K Q) [o] a w) : wpStab P l C F Q ((i, false) :: π) a w :=
  ⟨o, ho, h _ (fun _ _ h => h)⟩
/-- The check: c says whether the world is in the class. -/
def stabB (md : Region.Mode) (ops : Array Oper) (F : Nat → Bool) : Bool → List (Nat × Bool) → Array Bool → Bool
  | _, [], listed => (Region.ready md ops listed).isEmpty
  | c, (i, true) :: π, listed => c && (Region.ready md ops listed).contains i && Region.free md ops listed i && behindB md ops F i && stabB md ops F c π (listed.setIfInBounds i true)
  | c, (i, false) :: π, listed => (Region.ready md ops listed == [i]) && stabB md ops F (c && F i) π (listed.setIfInBounds i true)
theorem wpAnyC_of_stab {F : Nat → Bool} {l : List Oper} (hsel : Region.noSelect l.toArray = true) (hQ : ∀ c a a' w, a.defers = a'.defers → Q (.panic c) a w → Q (.panic c) a' w) :
    ∀ (π : List (Nat × Bool)) (c : Bool) (listed : Array Bool) (a : Act) (w : World), (c = true → C w) → Closed md l.toArray listed → stabB md l.toArray F c π listed = true → wpStab P l C F Q π a w → wpAnyC P md l.toArray C F Q π.length listed a w
  | [], _, listed, a, w, _, _, hB, h => ⟨by simpa [stabB] using hB, h⟩
  | (i, true) :: π, c, listed, a, w, hC, hcl, hB, h => by
    obtain ⟨o, v, ho0, hy, hK⟩ := h
    have ho : l.toArray[i]? = some o := by simpa using ho0
    simp only [stabB, Bool.and_eq_true] at hB
    obtain ⟨⟨⟨⟨hc, hr⟩, hf⟩, hb⟩, hrest⟩ := hB
    have hr' : i ∈ Region.ready md l.toArray listed := by simpa using hr
    exact wpAnyC_first ho (Region.noSelect_spec hsel) (fun ch a w h => hQ ch _ _ w (by cases o.dst <;> rfl) h) hb π.length listed a w (hC hc) hcl (Region.free_spec ho hf) hr' hy
      (wpAnyC_of_stab hsel hQ π c _ _ _ hC (hcl.set hr') hrest hK)
  | (i, false) :: π, c, listed, a, w, hC, hcl, hB, h => by
    obtain ⟨o, ho0, hK⟩ := h
    have ho : l.toArray[i]? = some o := by simpa using ho0
    simp only [stabB, Bool.and_eq_true] at hB
    obtain ⟨hr, hrest⟩ := hB
    have hr1 : Region.ready md l.toArray listed = [i] := by simpa using hr
    have hr' : i ∈ Region.ready md l.toArray listed := by rw [hr1]; simp
    refine ⟨fun h0 => absurd h0 (by rw [hr1]; simp), fun j hj => ?_⟩
    obtain rfl : j = i := by rw [hr1] at hj; simpa using hj
    refine wpOp_mono (fun a' w' h' => ⟨h'.1, wpAnyC_of_stab hsel hQ π (c && F j) _ a' w' (fun hcf => ?_) (hcl.set hr') hrest h'.2⟩) (wpOp_of_one ho hK)
    rw [Bool.and_eq_true] at hcf
    exact h'.1 hcf.2
theorem wp_region_stab {id : Nat} {a : Act} {w : World} {l : List Oper} (C : World → Prop) (F : List Nat) (π : List (Nat × Bool)) (hm : P.follows .mixedOrders = true) (hQ : ∀ c a a' w, a.defers = a'.defers → Q (.panic c) a w → Q (.panic c) a' w)
    (hB : (Region.noSelect l.toArray && (π.length == l.length) && stabB .any l.toArray (fun i => F.contains i) true π (Array.replicate l.length false)) = true) (hC : C w.drew) (h : wpStab P l C (fun i => F.contains i) Q π a w.drew) : (Code.region id l.toArray true).wp P Q a w := by
  simp only [Bool.and_eq_true, beq_iff_eq] at hB
  obtain ⟨⟨hsel, hlen⟩, hst⟩ := hB
  refine wp_region_any hm (wpAny_of_C (C := C) (F := fun i => F.contains i) _ _ _ _ ?_)
  have h1 := wpAnyC_of_stab (P := P) (Q := Q) (C := C) (md := .any) hsel hQ π true (Array.replicate l.length false) a w.drew (fun _ => hC) (fun j oj _ hl => by rw [getD_replicate_false] at hl; cases hl) hst h
  rw [hlen] at h1
  have hsz : l.toArray.size = l.length := by simp
  rw [hsz]
  exact h1
end
/-- Two cells, and what they hold. -/
def Two (p : Addr) (v : Value) (q : Addr) (u : Value) (W : World) : Prop := W.cell? p = some v ∧ W.cell? q = some u
end Go.Proofs.Ytnfgokbopndmgaa

/-
  What the document's own reader of layer 8 does. Conditions: no more than 2^16 bytes.
-/
namespace Go.Proofs.Ytnfgokbopndmgaa
open Go.RowKit
open Pol (co Sm)

/-- A reader of the document's in block g: its bytes, where it is, its error. -/
structure RR (w : World) (g : Nat) (B : Option Addr) (n cb a e : Nat) : Prop where
  c0 : w.cell? ⟨g, 0, none⟩ = some (.slice B n cb)
  c1 : w.cell? ⟨g, 1, none⟩ = some (.int .i64 (a : Int))
  c2 : w.cell? ⟨g, 2, none⟩ = some (.int .i64 (e : Int))
  z1 : w.frozen? ⟨g, 1, none⟩ = false
  z2 : w.frozen? ⟨g, 2, none⟩ = false
theorem off_ne8 (g : Nat) {a b : Nat} (h : a ≠ b) : (⟨g, a, none⟩ : Addr) ≠ ⟨g, b, none⟩ := fun e => h (by injection e)
theorem RR.drewN {w : World} {g : Nat} {B : Option Addr} {n cb a e : Nat} (h : RR w g B n cb a e) (q : Nat) : RR (w.drewN q) g B n cb a e := ⟨h.c0, h.c1, h.c2, h.z1, h.z2⟩
theorem RR.set1 {w : World} {g : Nat} {B : Option Addr} {n cb a e : Nat} (h : RR w g B n cb a e) (a' : Nat) : RR (w.setCell ⟨g, 1, none⟩ (.int .i64 (a' : Int))) g B n cb a' e :=
  ⟨(World.cell?_setCell_other _ _ _ _ (off_ne8 g (by omega))).trans h.c0, World.cell?_setCell_same' _ _ _ (by rw [h.c1]; rfl), (World.cell?_setCell_other _ _ _ _ (off_ne8 g (by omega))).trans h.c2, by rw [World.frozen?_setCell]; exact h.z1, by rw [World.frozen?_setCell]; exact h.z2⟩
theorem RR.set2 {w : World} {g : Nat} {B : Option Addr} {n cb a e : Nat} (h : RR w g B n cb a e) (e' : Nat) : RR (w.setCell ⟨g, 2, none⟩ (.int .i64 (e' : Int))) g B n cb a e' :=
  ⟨(World.cell?_setCell_other _ _ _ _ (off_ne8 g (by omega))).trans h.c0, (World.cell?_setCell_other _ _ _ _ (off_ne8 g (by omega))).trans h.c1, World.cell?_setCell_same' _ _ _ (by rw [h.c2]; rfl), by rw [World.frozen?_setCell]; exact h.z1, by rw [World.frozen?_setCell]; exact h.z2⟩
theorem RR.ext {w w' : World} {g : Nat} {B : Option Addr} {n cb a e : Nat} (h : RR w g B n cb a e) (hx : Ext w w') : RR w' g B n cb a e :=
  ⟨(hx.below.cell (p := ⟨g, 0, none⟩) (block_lt_of_cell h.c0)).trans h.c0, (hx.below.cell (p := ⟨g, 1, none⟩) (block_lt_of_cell h.c1)).trans h.c1, (hx.below.cell (p := ⟨g, 2, none⟩) (block_lt_of_cell h.c2)).trans h.c2, (hx.below.frozen (p := ⟨g, 1, none⟩) (block_lt_of_cell h.c1)).trans h.z1, (hx.below.frozen (p := ⟨g, 2, none⟩) (block_lt_of_cell h.c2)).trans h.z2⟩
theorem RR.only {X : Nat → Prop} {w w' : World} {g : Nat} {B : Option Addr} {n cb a e : Nat} (h : RR w g B n cb a e) (ho : Only X w w') (hx : ¬ X g) : RR w' g B n cb a e :=
  ⟨ho.cell h.c0 hx, ho.cell h.c1 hx, ho.cell h.c2 hx, (ho.frozen (o := 1) (block_lt_of_cell h.c1) hx).trans h.z1, (ho.frozen (o := 2) (block_lt_of_cell h.c2) hx).trans h.z2⟩
theorem rd_keep {w w' : World} {A : Option Addr} {l : List Nat} {g : Nat} (h : Rd w A l) (ho : Only (fun k => k = g) w w') (hne : ∀ b o, A = some ⟨b, o, none⟩ → 0 < l.length → b ≠ g) : Rd w' A l :=
  ⟨h.1, fun i hi => by
    obtain ⟨b, o, e, hc⟩ := h.2 i hi
    exact ⟨b, o, e, ho.cell hc (hne b o e (by omega))⟩⟩
/-- What a method of the document's reader leaves, of bytes l of which rest is left. -/
def RefE {α : Type} (l : List Nat) (g : Nat) (B : Option Addr) (cb : Nat) (V : Value → World → Option α → Prop) (r : Rs α) (w : World) (e : Ending) (w' : World) : Prop :=
  Only (fun k => k = g) w w' ∧ match r with
    | .ok a rest => ∃ v, e = .returned v ∧ V v w' (some a) ∧ RR w' g B l.length cb (l.length - rest.length) 0
    | .er n => ∃ v at', e = .returned v ∧ V v w' none ∧ RR w' g B l.length cb at' n

set_option maxHeartbeats 3200000 in
set_option maxRecDepth 100000 in
theorem ref8r_number (l rest : List Nat) (g : Nat) (B : Option Addr) (cb most : Nat) (w : World) (hr : Rd w B l) (hfar : ∀ b o, B = some ⟨b, o, none⟩ → 0 < l.length → b ≠ g) (hl : l.length ≤ 65536) (hd : ∃ pre, l = pre ++ rest) (hR : RR w g B l.length cb (l.length - rest.length) 0) (_hm : most < 18446744073709551616) :
    Calls Try.prog 38 #[.pointer (some ⟨g, 0, none⟩), .int .u64 (most : Int)] w (RefE l g B cb (fun v _ n => v = .int .u64 ((n.getD 0 : Nat) : Int)) (rdN most rest) w) := by
  have HR := Lib.hid hr
  have HFAR := Lib.hid hfar
  have HD := Lib.hid hd
  have HRR := Lib.hid hR
  obtain ⟨res, hres⟩ : ∃ res, rdN most rest = res := ⟨_, rfl⟩
  have HRES := Lib.hid hres
  rw [hres]
  clear hr hfar hd hR hres
  generalize hn : l.length = n at *
  have HN := Lib.hid hn
  clear hn
  go_enter Try.func38, Try.ntmps38
  go_wp2
  go_loopg [5, 6, 7] rest.length (fun gh s5 s6 s7 wx => ∃ (i acc sc : Nat) (rs pre : List Nat), rs.length = gh ∧ l = pre ++ rs ∧ i ≤ 9 ∧ s7 = .int .i64 (i : Int) ∧ s5 = .int .u64 (acc : Int) ∧ s6 = .int .u64 (sc : Int) ∧ sc = 128 ^ i ∧ acc < 128 ^ i ∧ rv most i acc rs = res ∧ RR wx g B n cb pre.length 0 ∧ Only (fun k => k = g) w wx)
  case atStart =>
    obtain ⟨pre, hp⟩ := HD.out
    have hpl : n - rest.length = pre.length := by rw [← HN.out, hp, List.length_append]; omega
    exact ⟨0, 0, 1, rest, pre, rfl, hp, by omega, rfl, rfl, rfl, rfl, by omega, HRES.out, by rw [← hpl]; exact HRR.out, Only.refl _ _⟩
  case round =>
    obtain ⟨i, acc, sc, rs, pre, hgh, hlp, hi9, rfl, rfl, rfl, hsc, hacc, hrv, hrr, ho⟩ := hrel
    have HR1 := Lib.hid hrr
    have HO := Lib.hid ho
    have z0 := hrr.c0
    have z1 := hrr.c1
    have z2 := hrr.c2
    have y1 := hrr.z1
    have y2 := hrr.z2
    obtain ⟨pa, hpa⟩ : ∃ pa, pre.length = pa := ⟨_, rfl⟩
    have hpn : pa + rs.length = n := by rw [← HN.out, hlp, List.length_append, hpa]
    have HLP := Lib.hid hlp
    rw [hpa] at z1 HR1
    clear ho hrr hlp
    cases rs with
    | nil =>
      obtain rfl : gk = 0 := by simpa using hgh.symm
      have hpn' : n ≤ pa := by simp at hpn; omega
      have d1 : decide (n ≤ pa) = true := decide_eq_true hpn'
      have hrs : res = .er 2 := by rw [← hrv, rv]
      subst hrs
      clear hrv hgh
      go_wp2
      go_quiet (fail)
      go_wp2
      go_ret
      exact ⟨(HO.out.drewN nq).trans (Only.of_grown (grown_set' _ _ _ _) (fun k e => by cases e; rfl)), _, _, rfl, rfl, HN.out ▸ (HR1.out.drewN nq).set2 2⟩
    | cons b rs =>
      cases gk with
      | zero => simp at hgh
      | succ gh =>
      obtain rfl : rs.length = gh := by simpa using hgh
      have hpn' : pa < n := by simp at hpn; omega
      have hpnI : (pa : Int) < (n : Int) := by omega
      have d1 : decide (n ≤ pa) = false := decide_eq_false (by omega)
      obtain ⟨pa1, hpa1⟩ : ∃ pa1, pa + 1 = pa1 := ⟨_, rfl⟩
      have ep : IntKind.i64.wrap ((pa : Int) + 1) = (pa1 : Int) := by rw [IntWalk.i64_in _ (by omega)]; omega
      have hcb : co l pa = b := by rw [HLP.out, ← hpa]; unfold co; rw [List.getElem?_append_right (Nat.le_refl _), Nat.sub_self]; rfl
      obtain ⟨b1, o1, e1, hc1⟩ := (rd_keep HR.out HO.out (by rw [HN.out]; exact HFAR.out)).2 pa (by rw [HN.out]; exact hpn')
      subst e1
      have hbb := HR.out.1 pa
      rw [hcb] at hc1 hbb
      have hne : b1 ≠ g := HFAR.out b1 o1 rfl (by omega)
      have HPB := Lib.hid (show (pre ++ [b]).length = pa1 by rw [List.length_append, hpa]; exact hpa1)
      have hpn1 : pa1 + rs.length = n := by simp at hpn; omega
      clear hcb hpa hpn hgh
      have HR2' := Lib.hid (fun q => (HR1.out.drewN q).set1 pa1)
      have HO2' := Lib.hid (fun q => (HO.out.drewN q).trans (Only.of_grown (grown_set' (wr.drewN q) g 1 (.int .i64 (pa1 : Int))) (fun k e => by cases e; rfl)))
      obtain ⟨y, hy⟩ : ∃ y, b % 128 = y := ⟨_, rfl⟩
      have e2 : (b : Int) % 128 = (y : Int) := by omega
      have e2' : (b : Int).tmod 128 = (y : Int) := by rw [Int.tmod_eq_emod_of_nonneg (by omega)]; exact e2
      have e3 : IntKind.u8.wrap (y : Int) = (y : Int) := IntWalk.u8_in _ (by omega)
      have e4 : IntKind.u64.wrap (y : Int) = (y : Int) := by rw [IntKind.wrap_u64]; omega
      rw [rv] at hrv
      have hval : acc + b % 128 * 128 ^ i = acc + y * sc := by rw [hy, hsc]
      rw [hval] at hrv
      clear hy
      go_wp2
      go_quiet (fail)
      revert nq
      intro q1
      go_wp2
      go_quiet (fail)
      have HR2 := Lib.hid ((HR1.out.drewN (q1 + nq)).set1 pa1)
      have HO2 := Lib.hid ((HO.out.drewN (q1 + nq)).trans (Only.of_grown (grown_set' (wr.drewN (q1 + nq)) g 1 (.int .i64 (pa1 : Int))) (fun k e => by cases e; rfl)))
      have c2' := HR2.out.c2
      have y2' := HR2.out.z2
      by_cases h9 : i = 9
      · have t9 : ((i : Int) == 9) = true := by rw [h9]; rfl
        by_cases hb1 : 1 < b
        · have d2 : decide (1 < (b : Int)) = true := decide_eq_true (by omega)
          rw [if_pos (.inl ⟨h9, hb1⟩)] at hrv
          subst hrv
          clear hval hsc hacc h9
          go_wp2
          go_ret
          exact ⟨HO2.out.trans (Only.of_grown (grown_set' _ g 2 (.int .i64 14)) (fun k e => by cases e; rfl)), _, _, rfl, rfl, HN.out ▸ HR2.out.set2 14⟩
        · have d2 : decide (1 < (b : Int)) = false := decide_eq_false (by omega)
          have d3 : decide (0 < (i : Int)) = true := decide_eq_true (by omega)
          have d3n : decide (0 < i) = true := decide_eq_true (by omega)
          by_cases hb0 : b = 0
          · have d4 : ((b : Int) == 0) = true := by rw [hb0]; rfl
            have d4n : decide (b = 0) = true := decide_eq_true hb0
            have d4m : (b == 0) = true := by rw [hb0]; rfl
            rw [if_pos (.inr ⟨by omega, hb0⟩)] at hrv
            subst hrv
            clear hval hsc hacc h9 hb0
            go_wp2
            go_ret
            exact ⟨HO2.out.trans (Only.of_grown (grown_set' _ g 2 (.int .i64 14)) (fun k e => by cases e; rfl)), _, _, rfl, rfl, HN.out ▸ HR2.out.set2 14⟩
          · have d4 : ((b : Int) == 0) = false := beq_eq_false_iff_ne.2 (by omega)
            have d4n : decide (b = 0) = false := decide_eq_false hb0
            have d4m : (b == 0) = false := beq_eq_false_iff_ne.2 hb0
            rw [if_neg (by omega)] at hrv
            have hbound : acc + y * sc < 18446744073709551616 := by
              have hy1 : y = 1 := by omega
              rw [hy1, hsc, h9]
              rw [h9] at hacc
              have h128 : (128 : Nat) ^ 9 = 9223372036854775808 := by decide
              omega
            have HSC := Lib.hid hsc
            have HAC := Lib.hid hacc
            clear hsc hacc h9
            obtain ⟨nv, hnv⟩ : ∃ nv, acc + y * sc = nv := ⟨_, rfl⟩
            have hnvb : nv < 18446744073709551616 := by rw [← hnv]; exact hbound
            rw [hnv] at hrv
            have e5 : IntKind.u64.wrap ((y : Int) * (sc : Int)) = ((y * sc : Nat) : Int) := by rw [← Int.natCast_mul, IntKind.wrap_u64]; omega
            obtain ⟨ys, hys⟩ : ∃ ys, y * sc = ys := ⟨_, rfl⟩
            rw [hys] at e5 hnv
            have e6 : IntKind.u64.wrap ((acc : Int) + (ys : Int)) = (nv : Int) := by rw [IntKind.wrap_u64]; omega
            by_cases h128 : b < 128
            · have d7 : decide ((b : Int) < 128) = true := decide_eq_true (by omega)
              rw [if_pos h128] at hrv
              by_cases hmo : most < nv
              · have d8 : decide (most < nv) = true := decide_eq_true hmo
                have d8' : decide ((most : Int) < (nv : Int)) = true := decide_eq_true (by omega)
                have hrs : res = .er 10 := by rw [← hrv, if_pos hmo]
                subst hrs
                clear hrv hval hnv hys hbound
                go_wp2
                go_ret
                exact ⟨HO2.out.trans (Only.of_grown (grown_set' _ g 2 (.int .i64 10)) (fun k e => by cases e; rfl)), _, _, rfl, rfl, HN.out ▸ HR2.out.set2 10⟩
              · have d8 : decide (most < nv) = false := decide_eq_false hmo
                have d8' : decide ((most : Int) < (nv : Int)) = false := decide_eq_false (by omega)
                have hrs : res = .ok nv rs := by rw [← hrv, if_neg hmo]
                subst hrs
                have HAT := Lib.hid (show n - rs.length = pa1 by omega)
                clear hrv hval hnv hys hbound
                go_wp2
                go_ret
                exact ⟨HO2.out, _, rfl, rfl, by rw [HN.out, HAT.out]; exact HR2.out⟩
            · have d7 : decide ((b : Int) < 128) = false := decide_eq_false (by omega)
              rw [if_neg h128] at hrv
              omega
      · have t9 : ((i : Int) == 9) = false := beq_eq_false_iff_ne.2 (by omega)
        have hscl : 128 * sc ≤ 9223372036854775808 := by
          have h1 : 128 * sc = 128 ^ (i + 1) := by rw [hsc, Nat.pow_succ, Nat.mul_comm]
          have h2 : (128 : Nat) ^ (i + 1) ≤ 128 ^ 9 := Nat.pow_le_pow_right (by omega) (by omega)
          have h3 : (128 : Nat) ^ 9 = 9223372036854775808 := by decide
          omega
        have hbound : acc + y * sc < 18446744073709551616 := by
          have h1 : y * sc ≤ 127 * sc := Nat.mul_le_mul_right sc (by omega)
          have h2 : acc < sc := by rw [hsc]; exact hacc
          omega
        by_cases hi0 : i = 0
        · have d3 : decide (0 < (i : Int)) = false := decide_eq_false (by omega)
          have d3n : decide (0 < i) = false := decide_eq_false (by omega)
          rw [if_neg (by omega)] at hrv
          have HSC := Lib.hid hsc
          have HAC := Lib.hid hacc
          clear hsc hacc hi0
          obtain ⟨nv, hnv⟩ : ∃ nv, acc + y * sc = nv := ⟨_, rfl⟩
          have hnvb : nv < 18446744073709551616 := by rw [← hnv]; exact hbound
          rw [hnv] at hrv
          have e5 : IntKind.u64.wrap ((y : Int) * (sc : Int)) = ((y * sc : Nat) : Int) := by rw [← Int.natCast_mul, IntKind.wrap_u64]; omega
          obtain ⟨ys, hys⟩ : ∃ ys, y * sc = ys := ⟨_, rfl⟩
          rw [hys] at e5 hnv
          have e6 : IntKind.u64.wrap ((acc : Int) + (ys : Int)) = (nv : Int) := by rw [IntKind.wrap_u64]; omega
          by_cases h128 : b < 128
          · have d7 : decide ((b : Int) < 128) = true := decide_eq_true (by omega)
            rw [if_pos h128] at hrv
            by_cases hmo : most < nv
            · have d8 : decide (most < nv) = true := decide_eq_true hmo
              have d8' : decide ((most : Int) < (nv : Int)) = true := decide_eq_true (by omega)
              have hrs : res = .er 10 := by rw [← hrv, if_pos hmo]
              subst hrs
              clear hrv hval hnv hys hbound
              go_wp2
              go_ret
              exact ⟨HO2.out.trans (Only.of_grown (grown_set' _ g 2 (.int .i64 10)) (fun k e => by cases e; rfl)), _, _, rfl, rfl, HN.out ▸ HR2.out.set2 10⟩
            · have d8 : decide (most < nv) = false := decide_eq_false hmo
              have d8' : decide ((most : Int) < (nv : Int)) = false := decide_eq_false (by omega)
              have hrs : res = .ok nv rs := by rw [← hrv, if_neg hmo]
              subst hrs
              have HAT := Lib.hid (show n - rs.length = pa1 by omega)
              clear hrv hval hnv hys hbound
              go_wp2
              go_ret
              exact ⟨HO2.out, _, rfl, rfl, by rw [HN.out, HAT.out]; exact HR2.out⟩
          · have d7 : decide ((b : Int) < 128) = false := decide_eq_false (by omega)
            rw [if_neg h128] at hrv
            have HRV := Lib.hid hrv
            obtain ⟨sc2, hsc2⟩ : ∃ sc2, sc * 128 = sc2 := ⟨_, rfl⟩
            have hsc3 : sc2 = 128 ^ (i + 1) := by rw [← hsc2, HSC.out, Nat.pow_succ]
            have hscb : sc2 < 18446744073709551616 := by rw [hsc3]; exact Nat.lt_of_le_of_lt (Nat.pow_le_pow_right (n := 128) (by omega) (show i + 1 ≤ 9 by omega)) (by decide)
            have e9 : IntKind.u64.wrap ((sc : Int) * 128) = (sc2 : Int) := by rw [IntKind.wrap_u64]; omega
            have hnv3 : nv < 128 ^ (i + 1) := by rw [← hsc3, ← hsc2, ← hnv, ← hys]; have : y * sc ≤ 127 * sc := Nat.mul_le_mul_right sc (by omega); have hacc := HAC.out; rw [← HSC.out] at hacc; omega
            have HHH := Lib.hid (show sc2 = 128 ^ (i + 1) ∧ nv < 128 ^ (i + 1) from ⟨hsc3, hnv3⟩)
            clear hrv hval hnv hys hbound hsc2 hsc3 hnv3
            go_wp2
            go_roundg rs.length
            case measure => omega
            case rel => exact ⟨i + 1, nv, sc2, rs, pre ++ [b], rfl, by rw [HLP.out, List.append_assoc]; rfl, by omega, by go_num, rfl, rfl, HHH.out.1, HHH.out.2, HRV.out, by rw [HPB.out]; exact HR2.out, HO2.out⟩
        · have d3 : decide (0 < (i : Int)) = true := decide_eq_true (by omega)
          have d3n : decide (0 < i) = true := decide_eq_true (by omega)
          by_cases hb0 : b = 0
          · have d4 : ((b : Int) == 0) = true := by rw [hb0]; rfl
            have d4n : decide (b = 0) = true := decide_eq_true hb0
            have d4m : (b == 0) = true := by rw [hb0]; rfl
            rw [if_pos (.inr ⟨by omega, hb0⟩)] at hrv
            subst hrv
            clear hval hsc hacc hb0 hbound hscl
            go_wp2
            go_ret
            exact ⟨HO2.out.trans (Only.of_grown (grown_set' _ g 2 (.int .i64 14)) (fun k e => by cases e; rfl)), _, _, rfl, rfl, HN.out ▸ HR2.out.set2 14⟩
          · have d4 : ((b : Int) == 0) = false := beq_eq_false_iff_ne.2 (by omega)
            have d4n : decide (b = 0) = false := decide_eq_false hb0
            have d4m : (b == 0) = false := beq_eq_false_iff_ne.2 hb0
            rw [if_neg (by omega)] at hrv
            have HSC := Lib.hid hsc
            have HAC := Lib.hid hacc
            clear hsc hacc
            obtain ⟨nv, hnv⟩ : ∃ nv, acc + y * sc = nv := ⟨_, rfl⟩
            have hnvb : nv < 18446744073709551616 := by rw [← hnv]; exact hbound
            rw [hnv] at hrv
            have e5 : IntKind.u64.wrap ((y : Int) * (sc : Int)) = ((y * sc : Nat) : Int) := by rw [← Int.natCast_mul, IntKind.wrap_u64]; omega
            obtain ⟨ys, hys⟩ : ∃ ys, y * sc = ys := ⟨_, rfl⟩
            rw [hys] at e5 hnv
            have e6 : IntKind.u64.wrap ((acc : Int) + (ys : Int)) = (nv : Int) := by rw [IntKind.wrap_u64]; omega
            by_cases h128 : b < 128
            · have d7 : decide ((b : Int) < 128) = true := decide_eq_true (by omega)
              rw [if_pos h128] at hrv
              by_cases hmo : most < nv
              · have d8 : decide (most < nv) = true := decide_eq_true hmo
                have d8' : decide ((most : Int) < (nv : Int)) = true := decide_eq_true (by omega)
                have hrs : res = .er 10 := by rw [← hrv, if_pos hmo]
                subst hrs
                clear hrv hval hnv hys hbound
                go_wp2
                go_ret
                exact ⟨HO2.out.trans (Only.of_grown (grown_set' _ g 2 (.int .i64 10)) (fun k e => by cases e; rfl)), _, _, rfl, rfl, HN.out ▸ HR2.out.set2 10⟩
              · have d8 : decide (most < nv) = false := decide_eq_false hmo
                have d8' : decide ((most : Int) < (nv : Int)) = false := decide_eq_false (by omega)
                have hrs : res = .ok nv rs := by rw [← hrv, if_neg hmo]
                subst hrs
                have HAT := Lib.hid (show n - rs.length = pa1 by omega)
                clear hrv hval hnv hys hbound
                go_wp2
                go_ret
                exact ⟨HO2.out, _, rfl, rfl, by rw [HN.out, HAT.out]; exact HR2.out⟩
            · have d7 : decide ((b : Int) < 128) = false := decide_eq_false (by omega)
              rw [if_neg h128] at hrv
              have HRV := Lib.hid hrv
              obtain ⟨sc2, hsc2⟩ : ∃ sc2, sc * 128 = sc2 := ⟨_, rfl⟩
              have hsc3 : sc2 = 128 ^ (i + 1) := by rw [← hsc2, HSC.out, Nat.pow_succ]
              have hscb : sc2 < 18446744073709551616 := by rw [hsc3]; exact Nat.lt_of_le_of_lt (Nat.pow_le_pow_right (n := 128) (by omega) (show i + 1 ≤ 9 by omega)) (by decide)
              have e9 : IntKind.u64.wrap ((sc : Int) * 128) = (sc2 : Int) := by rw [IntKind.wrap_u64]; omega
              have hnv3 : nv < 128 ^ (i + 1) := by rw [← hsc3, ← hsc2, ← hnv, ← hys]; have : y * sc ≤ 127 * sc := Nat.mul_le_mul_right sc (by omega); have hacc := HAC.out; rw [← HSC.out] at hacc; omega
              have HHH := Lib.hid (show sc2 = 128 ^ (i + 1) ∧ nv < 128 ^ (i + 1) from ⟨hsc3, hnv3⟩)
              clear hrv hval hnv hys hbound hsc2 hsc3 hnv3
              go_wp2
              go_roundg rs.length
              case measure => omega
              case rel => exact ⟨i + 1, nv, sc2, rs, pre ++ [b], rfl, by rw [HLP.out, List.append_assoc]; rfl, by omega, by go_num, rfl, rfl, HHH.out.1, HHH.out.2, HRV.out, by rw [HPB.out]; exact HR2.out, HO2.out⟩
end Go.Proofs.Ytnfgokbopndmgaa

/-
  What the document's own reader of layer 8 does beside numbers: bytes, texts, its end. Conditions: no more than 2^16 bytes.
-/
namespace Go.Proofs.Ytnfgokbopndmgaa
open Go.RowKit
open Pol (co Sm)

/-- Bytes that were handed back, or none. -/
def OptB (base : Nat) (v : Value) (w : World) (o : Option (List Nat)) : Prop := OwnB base v w (o.getD [])
theorem mine_own {w : World} {base : Nat} {v : Value} {l : List Nat} (h : Mine w base v l) (hs : Sm l) : OwnB base v w l := by
  obtain ⟨B, c, rfl, hc, hr⟩ := h.slice hs
  refine ⟨B, c, rfl, hc, hr, fun b o e hl => ?_⟩
  subst e
  rcases h.2 with ⟨e, hn⟩ | ⟨g, cap, cur, e, hb, _⟩
  · omega
  · injection e with e
    injection e with e
    injection e with e _
    rw [e]
    exact hb

set_option maxHeartbeats 3200000 in
set_option maxRecDepth 100000 in
theorem ref8r_bytes (l rest : List Nat) (g : Nat) (B : Option Addr) (cb m : Nat) (w : World) (hr : Rd w B l) (hcb : l.length ≤ cb) (hl : l.length ≤ 65536) (hd : ∃ pre, l = pre ++ rest) (hR : RR w g B l.length cb (l.length - rest.length) 0) (hm : m ≤ 1048576) :
    Calls Try.prog 53 #[.pointer (some ⟨g, 0, none⟩), .int .i64 (m : Int)] w (RefE l g B cb (OptB w.heap.size) (rdB m rest) w) := by
  obtain ⟨pre, hp⟩ := hd
  have hrl : pre.length + rest.length = l.length := by rw [hp, List.length_append]
  obtain ⟨pa, hpa⟩ : ∃ pa, pre.length = pa := ⟨_, rfl⟩
  rw [show l.length - rest.length = pa from by omega] at hR
  obtain ⟨rl, hrl2⟩ : ∃ rl, rest.length = rl := ⟨_, rfl⟩
  rw [hpa, hrl2] at hrl
  have HR := Lib.hid hr
  have HRR := Lib.hid hR
  have z0 := hR.c0
  have z1 := hR.c1
  have z2 := hR.c2
  have y1 := hR.z1
  have y2 := hR.z2
  have hgl := block_lt_of_cell hR.c0
  have HCUT := Lib.hid (fun k (hk : k ≤ rl) => show tab k (fun j => co l (pa + j)) = rest.take k from Lin.list_ext (by rw [tab_len, List.length_take]; omega) fun i hi => by
    rw [tab_len] at hi
    rw [co_tab, if_pos hi, hp, ← hpa]
    unfold co
    rw [List.getElem?_append_right (by omega), List.getElem?_take, if_pos hi]
    congr 2
    omega)
  have HSR := Lib.hid (show ∀ k, Sm (rest.take k) from fun k => Pol.co_lt_of fun z hz => hr.1.mem z (by rw [hp]; exact List.mem_append.2 (.inr (List.mem_of_mem_take hz))))
  have HRD := Lib.hid (show rdB m rest = if rl < m then .er 2 else .ok (rest.take m) (rest.drop m) from by unfold rdB; rw [hrl2])
  have HDL := Lib.hid (show (rest.drop m).length = rl - m by rw [List.length_drop, hrl2])
  have HTL := Lib.hid (fun k (hk : k ≤ rl) => show (rest.take k).length = k by rw [List.length_take, hrl2]; omega)
  rw [HRD.out]
  clear hr hR hp hpa hrl2
  generalize hn : l.length = n at *
  have HN := Lib.hid hn
  clear hn
  obtain ⟨df, hdf⟩ : ∃ df, n - pa = df := ⟨_, rfl⟩
  have e1 : IntKind.i64.wrap ((n : Int) - (pa : Int)) = (df : Int) := by rw [IntWalk.i64_in _ (by omega)]; omega
  by_cases hlt : rl < m
  · rw [if_pos hlt]
    have d1 : decide (df < m) = true := decide_eq_true (by omega)
    clear hdf HRD
    go_enter Try.func53, Try.ntmps53
    go_wp2
    go_quiet (fail)
    go_wp2
    go_ret
    exact ⟨((Only.refl _ w).drewN nq).trans (Only.of_grown (grown_set' _ g 2 (.int .i64 2)) (fun k e => by cases e; rfl)), _, _, rfl, ⟨none, 0, rfl, Nat.le_refl _, Rd.nil _ _, fun _ _ _ h => absurd h (by simp)⟩, HN.out ▸ (HRR.out.drewN nq).set2 2⟩
  · rw [if_neg hlt]
    have d1 : decide (df < m) = false := decide_eq_false (by omega)
    obtain ⟨p2, hp2⟩ : ∃ p2, pa + m = p2 := ⟨_, rfl⟩
    have e2 : IntKind.i64.wrap ((pa : Int) + (m : Int)) = (p2 : Int) := by rw [IntWalk.i64_in _ (by omega)]; omega
    obtain ⟨X, hX, hXr⟩ := run_cut_u8 B n cb pa p2 (by omega) (by omega)
    rw [show p2 - pa = m from by omega] at hX hXr
    obtain ⟨cx, hcx⟩ : ∃ cx, cb - pa = cx := ⟨_, rfl⟩
    rw [hcx] at hX
    have HXR := Lib.hid (fun W (hW : Ext w W) => show Rd W X (rest.take m) from by
      have h := hXr W l (HR.out.ext hW) (by rw [HN.out]; omega)
      rwa [HCUT.out m (by omega)] at h)
    have hp2n : p2 ≤ n := by omega
    have hpa2 : pa ≤ p2 := by omega
    have hp2c : p2 ≤ cb := by omega
    have HAT := Lib.hid (show n - (rl - m) = p2 by omega)
    have HT1 := Lib.hid (HTL.out m (by omega))
    have HS1 := Lib.hid (HSR.out m)
    clear hdf hXr hcx hp2 HRD HCUT
    generalize rest.take m = E at *
    go_enter Try.func53, Try.ntmps53
    go_wp2
    go_quiet (fail)
    revert nq
    intro q1
    go_wp2
    refine wp_region_stab (Two ⟨g, 0, none⟩ (.slice B n cb) ⟨g, 1, none⟩ (.int .i64 (pa : Int))) [0, 1, 2, 3, 4, 5, 6, 7, 8, 9, 10, 11, 12, 13, 14, 15] [(1, true), (2, true), (3, true), (4, true), (5, true), (6, true), (7, true), (8, true), (9, true), (10, true), (11, true), (12, true), (13, true), (14, true), (15, true), (0, false), (16, false), (17, false)] (by kernel_rfl) (fun c a a' w e h => ⟨e ▸ h.1, h.2⟩) (by kernel_rfl) ⟨z0, z1⟩ ?_
    refine stab_yes rfl (fun K hK => ?_)
    go_simp
    refine ⟨_, fun _ _ => rfl, hK _ ?_⟩
    clear hK K
    refine stab_yes rfl (fun K hK => ?_)
    go_simp
    refine ⟨_, fun _ _ => rfl, hK _ ?_⟩
    clear hK K
    refine stab_yes rfl (fun K hK => ?_)
    go_simp
    refine ⟨_, fun _ _ => rfl, hK _ ?_⟩
    clear hK K
    refine stab_yes rfl (fun K hK => ?_)
    go_simp
    refine ⟨(.slice B n cb), fun W hW => ?_, hK _ ?_⟩
    focus (have h1 := hW.1; go_simp; done)
    clear hK K
    refine stab_yes rfl (fun K hK => ?_)
    go_simp
    refine ⟨_, fun _ _ => rfl, hK _ ?_⟩
    clear hK K
    refine stab_yes rfl (fun K hK => ?_)
    go_simp
    refine ⟨_, fun _ _ => rfl, hK _ ?_⟩
    clear hK K
    refine stab_yes rfl (fun K hK => ?_)
    go_simp
    refine ⟨_, fun _ _ => rfl, hK _ ?_⟩
    clear hK K
    refine stab_yes rfl (fun K hK => ?_)
    go_simp
    refine ⟨(.int .i64 (pa : Int)), fun W hW => ?_, hK _ ?_⟩
    focus (have h1 := hW.2; go_simp; done)
    clear hK K
    refine stab_yes rfl (fun K hK => ?_)
    go_simp
    refine ⟨_, fun _ _ => rfl, hK _ ?_⟩
    clear hK K
    refine stab_yes rfl (fun K hK => ?_)
    go_simp
    refine ⟨_, fun _ _ => rfl, hK _ ?_⟩
    clear hK K
    refine stab_yes rfl (fun K hK => ?_)
    go_simp
    refine ⟨_, fun _ _ => rfl, hK _ ?_⟩
    clear hK K
    refine stab_yes rfl (fun K hK => ?_)
    go_simp
    refine ⟨(.int .i64 (pa : Int)), fun W hW => ?_, hK _ ?_⟩
    focus (have h1 := hW.2; go_simp; done)
    clear hK K
    refine stab_yes rfl (fun K hK => ?_)
    go_simp
    refine ⟨_, fun _ _ => rfl, hK _ ?_⟩
    clear hK K
    refine stab_yes rfl (fun K hK => ?_)
    go_simp
    refine ⟨_, fun _ _ => rfl, hK _ ?_⟩
    clear hK K
    refine stab_yes rfl (fun K hK => ?_)
    go_simp
    refine ⟨_, fun _ _ => rfl, hK _ ?_⟩
    clear hK K
    refine stab_one rfl (fun K hK => ?_)
    go_wp2
    have HRR1 := Lib.hid ((HRR.out.drewN (q1 + 1)).ext ((Ext.refl (w.drewN (q1 + 1))).alloc (.cells #[] 5)))
    have HXD := Lib.hid ((Ext.refl w).drewN (q1 + 1))
    have hsd : (w.drewN (q1 + 1)).heap.size = w.heap.size := rfl
    refine ⟨fun _ => ⟨HRR1.out.c0, HRR1.out.c1⟩, ?_⟩
    clear HRR1 z0 z1 z2 y1 y2
    refine stab_one rfl (fun K hK => ?_)
    go_wp2_with (at_builtin; refine wpList_append_rd rfl (.tmp 26) (.tmp 41) rfl w.heap.size _ [] E rfl (mine_empty (w.drewN (q1 + 1))) X m cx rfl HT1.out (HXR.out _ (HXD.out.alloc _)) (by rw [HT1.out]; simp; omega) (by simp) ?_; intro v' w3 hown' hg' hat'; rw [List.nil_append] at hown'; have hx3 := (HXD.out.alloc (.cells #[] 5)).more hg' (fun r e => by have := ((mine_empty (w.drewN (q1 + 1))).block r e).1; exact this); obtain ⟨Bv, cv, ev', hcv, _⟩ := hown'.slice HS1.out; rw [HT1.out] at ev' hcv; subst ev'; have HO := Lib.hid hown'; have HX3 := Lib.hid hx3; clear hown' hg' hat' hx3)
    have HR3 := Lib.hid (HRR.out.ext HX3.out)
    have z0 := HR3.out.c0
    have z1 := HR3.out.c1
    have y1 := HR3.out.z1
    refine ⟨fun h => absurd h (by decide), ?_⟩
    refine stab_one rfl (fun K hK => ?_)
    go_wp2
    refine ⟨fun h => absurd h (by decide), ?_⟩
    unfold wpStab
    go_wp2
    go_ret
    have hmv := mine_only (X := fun k => k = g) HO.out (Only.of_grown (grown_set' w3 g 1 (.int .i64 (p2 : Int))) (fun k e => by cases e; rfl)) (fun k hk e => by have := (HO.out.block k hk).1; omega)
    exact ⟨(Only.of_ext HX3.out).trans (Only.of_grown (grown_set' _ g 1 (.int .i64 (p2 : Int))) (fun k e => by cases e; rfl)), _, rfl, by
      have h := mine_own (hmv.down (base' := w.heap.size) (by omega)) HS1.out
      exact h, by rw [HN.out, HDL.out, HAT.out]; exact HR3.out.set1 p2⟩

theorem OwnB.down {base base' : Nat} {v : Value} {w : World} {l : List Nat} (h : OwnB base v w l) (hb : base' ≤ base) : OwnB base' v w l := by
  obtain ⟨B, c, e, hc, hr, hbl⟩ := h
  exact ⟨B, c, e, hc, hr, fun b o e hl => Nat.le_trans hb (hbl b o e hl)⟩
set_option maxHeartbeats 800000 in
theorem ref8r_none (g : Nat) (B : Option Addr) (n cb a e : Nat) (m : Int) (w : World) (hR : RR w g B n cb a e) (he : 0 < e) :
    Calls Try.prog 53 #[.pointer (some ⟨g, 0, none⟩), .int .i64 m] w (fun en w' => en = .returned (.slice none 0 0) ∧ w = w') := by
  have z2 := hR.c2
  have t0 : ((e : Int) != 0) = true := by simp; omega
  clear hR he
  go_enter Try.func53, Try.ntmps53
  go_wp2
  go_ret
  exact ⟨rfl, rfl⟩

set_option maxHeartbeats 1600000 in
set_option maxRecDepth 100000 in
theorem ref8r_text (l rest : List Nat) (g : Nat) (B : Option Addr) (cb m : Nat) (w : World) (hr : Rd w B l) (hcb : l.length ≤ cb) (hfar : ∀ b o, B = some ⟨b, o, none⟩ → 0 < l.length → b ≠ g) (hl : l.length ≤ 65536) (hd : ∃ pre, l = pre ++ rest) (hR : RR w g B l.length cb (l.length - rest.length) 0) (hm : m ≤ 5000) :
    Calls Try.prog 39 #[.pointer (some ⟨g, 0, none⟩), .int .i64 (m : Int)] w (RefE l g B cb (OptB w.heap.size) (rdT m rest) w) := by
  have HN := Lib.hid (ref8r_number l rest g B cb m w hr hfar hl hd hR (by omega))
  have e0 : max (m : Int) 0 = (m : Int) := by omega
  have e0' : max 0 (m : Int) = (m : Int) := by omega
  have e1 : IntKind.u64.wrap (m : Int) = (m : Int) := by rw [IntKind.wrap_u64]; omega
  have hsr : Sm rest := by obtain ⟨pre, hp⟩ := hd; rw [hp] at hr; exact (sm_split hr.1).2
  unfold rdT
  cases hres : rdN m rest with
  | er e =>
    rw [hres] at HN
    have he := (rdN_er hres).1
    clear hr hR hd hfar hres hsr
    go_enter Try.func39, Try.ntmps39
    go_wp2_with fail
    refine HN.out.mono ?_
    rintro en w1 ⟨ho, v, a, rfl, rfl, hrr⟩
    have HO := Lib.hid ho
    have HRR := Lib.hid hrr
    clear ho hrr
    go_wp2_with fail
    refine (ref8r_none g B l.length cb a e 0 w1 HRR.out he).mono ?_
    rintro en w2 ⟨rfl, rfl⟩
    go_wp2
    go_ret
    exact ⟨HO.out, _, a, rfl, ⟨none, 0, rfl, Nat.le_refl _, Rd.nil _ _, fun _ _ _ h => absurd h (by simp)⟩, HRR.out⟩
  | ok k r =>
    rw [hres] at HN
    obtain ⟨hk1, _, hk3⟩ := vn_rdN hsr hres
    have hkm : k ≤ 5000 := by omega
    have e2 : IntKind.i64.wrap (k : Int) = (k : Int) := IntWalk.i64_in _ (by omega)
    have HB := Lib.hid (fun w1 (ho : Only (fun k => k = g) w w1) (hrr : RR w1 g B l.length cb (l.length - r.length) 0) => ref8r_bytes l r g B cb k w1 (rd_keep hr ho hfar) hcb hl (by
      obtain ⟨pre, hp⟩ := hd
      exact ⟨pre ++ vn k, by rw [List.append_assoc, ← hk1]; exact hp⟩) hrr (by omega))
    show Calls _ _ _ _ (RefE l g B cb (OptB w.heap.size) (rdB k r) w)
    clear hr hR hd hfar hres hsr hk1 hk3
    go_enter Try.func39, Try.ntmps39
    go_wp2_with fail
    refine HN.out.mono ?_
    rintro en w1 ⟨ho, v, rfl, rfl, hrr⟩
    have HO := Lib.hid ho
    have HB1 := Lib.hid (HB.out w1 ho hrr)
    have hs1 := ho.size
    clear ho hrr
    go_wp2_with fail
    refine HB1.out.mono ?_
    intro en w2 h2
    cases hrd : rdB k r with
    | ok t r2 =>
      rw [hrd] at h2
      obtain ⟨ho2, v2, rfl, hv2, hrr2⟩ := h2
      have HH := Lib.hid (show Only (fun k => k = g) w w2 ∧ OwnB w.heap.size v2 w2 t ∧ RR w2 g B l.length cb (l.length - r2.length) 0 from ⟨HO.out.trans ho2, OwnB.down hv2 hs1, hrr2⟩)
      have HRD := Lib.hid hrd
      clear ho2 hv2 hrr2 hrd
      go_wp2
      go_ret
      refine ⟨HH.out.1, ?_⟩
      rw [HRD.out]
      exact ⟨_, rfl, HH.out.2.1, HH.out.2.2⟩
    | er e =>
      rw [hrd] at h2
      obtain ⟨ho2, v2, a, rfl, hv2, hrr2⟩ := h2
      have HH := Lib.hid (show Only (fun k => k = g) w w2 ∧ OwnB w.heap.size v2 w2 [] ∧ RR w2 g B l.length cb a e from ⟨HO.out.trans ho2, OwnB.down hv2 hs1, hrr2⟩)
      have HRD := Lib.hid hrd
      clear ho2 hv2 hrr2 hrd
      go_wp2
      go_ret
      refine ⟨HH.out.1, ?_⟩
      rw [HRD.out]
      exact ⟨_, a, rfl, HH.out.2.1, HH.out.2.2⟩

set_option maxHeartbeats 1600000 in
set_option maxRecDepth 100000 in
theorem ref8r_end (rest : List Nat) (g : Nat) (B : Option Addr) (n cb : Nat) (w : World) (hR : RR w g B n cb (n - rest.length) 0) (hl : rest.length ≤ n) :
    Calls Try.prog 40 #[.pointer (some ⟨g, 0, none⟩)] w (fun e w' => e = .returned (.int .i64 (if rest = [] then 0 else 3)) ∧ Only (fun k => k = g) w w') := by
  have z0 := hR.c0
  have z1 := hR.c1
  have z2 := hR.c2
  have y2 := hR.z2
  have HZ := Lib.hid (fun q v => World.cell?_setCell_same' (w.drewN q) ⟨g, 2, none⟩ v (by rw [show (w.drewN q).cell? ⟨g, 2, none⟩ = w.cell? ⟨g, 2, none⟩ from rfl, hR.c2]; rfl))
  clear hR
  cases rest with
  | nil =>
    rw [if_pos rfl]
    have d1 : decide (n - ([] : List Nat).length < n) = false := decide_eq_false (by simp)
    generalize n - ([] : List Nat).length = a at *
    clear hl
    go_enter Try.func40, Try.ntmps40
    go_wp2
    go_quiet (fail)
    go_wp2
    go_ret
    exact ⟨rfl, (Only.refl _ w).drewN nq⟩
  | cons x r =>
    rw [if_neg (by simp)]
    obtain ⟨a, ha⟩ : ∃ a, n - (x :: r).length = a := ⟨_, rfl⟩
    rw [ha] at z1
    have d1 : decide (a < n) = true := decide_eq_true (by simp at ha hl; omega)
    clear hl ha
    go_enter Try.func40, Try.ntmps40
    go_wp2
    go_quiet (fail)
    have z3 := HZ.out nq (.int .i64 3)
    go_wp2
    go_ret
    exact ⟨rfl, ((Only.refl _ w).drewN nq).trans (Only.of_grown (grown_set' _ g 2 (.int .i64 3)) (fun k e => by cases e; rfl))⟩
end Go.Proofs.Ytnfgokbopndmgaa

/-
  The document's own reader of layer 8, whatever it has read before: numbers, texts, the end. Conditions: no more than 2^16 bytes.
-/
namespace Go.Proofs.Ytnfgokbopndmgaa
open Go.RowKit
open Pol (co Sm)

/-- Where the reader of l stands: what is left, or its error. -/
def Stn (l : List Nat) (g : Nat) (B : Option Addr) (cb : Nat) (w : World) (r : Rs Unit) : Prop :=
  match r with
  | .ok _ rest => (∃ pre, l = pre ++ rest) ∧ RR w g B l.length cb (l.length - rest.length) 0
  | .er n => 0 < n ∧ ∃ a, RR w g B l.length cb a n
def Rs.unit {α : Type} (r : Rs α) : Rs Unit := match r with | .ok _ rest => .ok () rest | .er n => .er n
def Rs.val {α : Type} (r : Rs α) (z : α) : α := match r with | .ok a _ => a | .er _ => z
theorem Stn.ext {l : List Nat} {g cb : Nat} {B : Option Addr} {w w' : World} {r : Rs Unit} (h : Stn l g B cb w r) (hx : Ext w w') : Stn l g B cb w' r := by
  cases r with
  | ok u rest => exact ⟨h.1, h.2.ext hx⟩
  | er n =>
    obtain ⟨h0, a, h1⟩ := h
    exact ⟨h0, a, h1.ext hx⟩
theorem Stn.only {X : Nat → Prop} {l : List Nat} {g cb : Nat} {B : Option Addr} {w w' : World} {r : Rs Unit} (h : Stn l g B cb w r) (ho : Only X w w') (hx : ¬ X g) : Stn l g B cb w' r := by
  cases r with
  | ok u rest => exact ⟨h.1, h.2.only ho hx⟩
  | er n =>
    obtain ⟨h0, a, h1⟩ := h
    exact ⟨h0, a, h1.only ho hx⟩
theorem Stn.lt {l : List Nat} {g cb : Nat} {B : Option Addr} {w : World} {r : Rs Unit} (h : Stn l g B cb w r) : g < w.heap.size := by
  cases r with
  | ok u rest => exact block_lt_of_cell h.2.c0
  | er n =>
    obtain ⟨_, a, h1⟩ := h
    exact block_lt_of_cell h1.c0
set_option maxHeartbeats 1600000 in
theorem rd14_none (g : Nat) (B : Option Addr) (n cb a e most : Nat) (w : World) (hR : RR w g B n cb a e) (he : 0 < e) :
    Calls Try.prog 38 #[.pointer (some ⟨g, 0, none⟩), .int .u64 (most : Int)] w (fun en w' => en = .returned (.int .u64 0) ∧ w = w') := by
  have z2 := hR.c2
  have t0 : ((e : Int) == 0) = false := by simp; omega
  have t1 : decide ((e : Int) = 0) = false := decide_eq_false (by omega)
  have t2 : decide (e = 0) = false := decide_eq_false (by omega)
  clear hR he
  go_enter Try.func38, Try.ntmps38
  go_wp2
  go_loopg [5, 6, 7] 0 (fun gk s5 s6 s7 wx => w = wx)
  case atStart => rfl
  case round =>
    subst hrel
    go_wp2
    go_ret
    exact ⟨rfl, rfl⟩
set_option maxHeartbeats 1600000 in
theorem rd14_tnone (g : Nat) (B : Option Addr) (n cb a e : Nat) (most : Nat) (w : World) (hR : RR w g B n cb a e) (he : 0 < e) (hm : most < 9223372036854775808) :
    Calls Try.prog 39 #[.pointer (some ⟨g, 0, none⟩), .int .i64 (most : Int)] w (fun en w' => en = .returned (.slice none 0 0) ∧ w = w') := by
  have HN := Lib.hid (rd14_none g B n cb a e most w hR he)
  have HB := Lib.hid (ref8r_none g B n cb a e 0 w hR he)
  have e1 : IntKind.u64.wrap (most : Int) = (most : Int) := by rw [IntKind.wrap_u64]; omega
  have m1 : max (most : Int) 0 = (most : Int) := by omega
  clear hR he
  go_enter Try.func39, Try.ntmps39
  go_wp2_with fail
  refine HN.out.mono ?_
  rintro en w1 ⟨rfl, rfl⟩
  go_wp2_with fail
  refine HB.out.mono ?_
  rintro en w2 ⟨rfl, rfl⟩
  go_wp2
  go_ret
  exact ⟨rfl, rfl⟩
theorem rd14_number (l : List Nat) (g : Nat) (B : Option Addr) (cb most : Nat) (w : World) (r : Rs Unit) (hr : Rd w B l) (hfar : ∀ b o, B = some ⟨b, o, none⟩ → 0 < l.length → b ≠ g) (hl : l.length ≤ 65536) (hm : most < 18446744073709551616) (h : Stn l g B cb w r) :
    Calls Try.prog 38 #[.pointer (some ⟨g, 0, none⟩), .int .u64 (most : Int)] w
      (fun e w' => Only (fun k => k = g) w w' ∧ e = .returned (.int .u64 (((r.bind fun _ rest => rdN most rest).val 0 : Nat) : Int)) ∧ Stn l g B cb w' (r.bind fun _ rest => rdN most rest).unit) := by
  cases r with
  | er n =>
    obtain ⟨h0, a, h1⟩ := h
    refine (rd14_none g B l.length cb a n most w h1 h0).mono ?_
    rintro e w' ⟨rfl, rfl⟩
    exact ⟨Only.refl _ _, rfl, h0, a, h1⟩
  | ok u rest =>
    obtain ⟨⟨pre, hp⟩, h1⟩ := h
    have hs : Sm rest := by have h := hr.1; rw [hp] at h; exact (sm_split h).2
    refine (ref8r_number l rest g B cb most w hr hfar hl ⟨pre, hp⟩ h1 hm).mono ?_
    rintro e w' ⟨ho, h⟩
    show Only _ _ _ ∧ e = .returned (.int .u64 (((rdN most rest).val 0 : Nat) : Int)) ∧ Stn l g B cb w' (rdN most rest).unit
    cases hq : rdN most rest with
    | ok n rest' =>
      rw [hq] at h
      obtain ⟨v, he, hv, hR⟩ := h
      subst hv
      obtain ⟨e1, _, _⟩ := vn_rdN hs hq
      exact ⟨ho, he, ⟨pre ++ vn n, by rw [List.append_assoc, ← e1]; exact hp⟩, hR⟩
    | er n =>
      rw [hq] at h
      obtain ⟨v, a, he, hv, hR⟩ := h
      subst hv
      exact ⟨ho, he, (rdN_er hq).1, a, hR⟩
theorem rd14_text (l : List Nat) (g : Nat) (B : Option Addr) (cb most : Nat) (w : World) (r : Rs Unit) (hr : Rd w B l) (hcb : l.length ≤ cb) (hfar : ∀ b o, B = some ⟨b, o, none⟩ → 0 < l.length → b ≠ g) (hl : l.length ≤ 65536) (hm : most ≤ 5000) (h : Stn l g B cb w r) :
    Calls Try.prog 39 #[.pointer (some ⟨g, 0, none⟩), .int .i64 (most : Int)] w
      (fun e w' => Only (fun k => k = g) w w' ∧ (∃ D n c, e = .returned (.slice D n c) ∧ ((r.bind fun _ rest => rdT most rest).val []).length = n ∧ n ≤ c ∧ Rd w' D ((r.bind fun _ rest => rdT most rest).val []) ∧ ∀ b o, D = some ⟨b, o, none⟩ → 0 < n → w.heap.size ≤ b) ∧ Stn l g B cb w' (r.bind fun _ rest => rdT most rest).unit) := by
  cases r with
  | er n =>
    obtain ⟨h0, a, h1⟩ := h
    refine (rd14_tnone g B l.length cb a n most w h1 h0 (by omega)).mono ?_
    rintro e w' ⟨rfl, rfl⟩
    exact ⟨Only.refl _ _, ⟨none, 0, 0, rfl, rfl, Nat.le_refl _, Rd.nil _ _, fun b o h => by cases h⟩, h0, a, h1⟩
  | ok u rest =>
    obtain ⟨⟨pre, hp⟩, h1⟩ := h
    have hs : Sm rest := by have h := hr.1; rw [hp] at h; exact (sm_split h).2
    refine (ref8r_text l rest g B cb most w hr hcb hfar hl ⟨pre, hp⟩ h1 hm).mono ?_
    rintro e w' ⟨ho, h⟩
    show Only _ _ _ ∧ (∃ D n c, e = .returned (.slice D n c) ∧ ((rdT most rest).val []).length = n ∧ n ≤ c ∧ Rd w' D ((rdT most rest).val []) ∧ ∀ b o, D = some ⟨b, o, none⟩ → 0 < n → w.heap.size ≤ b) ∧ Stn l g B cb w' (rdT most rest).unit
    cases hq : rdT most rest with
    | ok n rest' =>
      rw [hq] at h
      obtain ⟨v, he, ⟨D, c, rfl, hc, hD, hb⟩, hR⟩ := h
      obtain ⟨e1, _, _⟩ := vt_rdT hs hq
      exact ⟨ho, ⟨D, _, c, he, rfl, hc, hD, fun b o e hn => hb b o e hn⟩, ⟨pre ++ vt n, by rw [List.append_assoc, ← e1]; exact hp⟩, hR⟩
    | er n =>
      rw [hq] at h
      obtain ⟨v, a, he, ⟨D, c, rfl, hc, hD, hb⟩, hR⟩ := h
      exact ⟨ho, ⟨D, _, c, he, rfl, hc, hD, fun b o e hn => hb b o e hn⟩, (rdT_er hq).1, a, hR⟩
/-- The error's number at the end. -/
def endc (r : Rs Unit) : Nat := match r with | .ok _ rest => if rest = [] then 0 else 3 | .er n => n
set_option maxHeartbeats 800000 in
theorem rd14_end (l : List Nat) (g : Nat) (B : Option Addr) (cb : Nat) (w : World) (r : Rs Unit) (h : Stn l g B cb w r) :
    Calls Try.prog 40 #[.pointer (some ⟨g, 0, none⟩)] w (fun e w' => e = .returned (.int .i64 ((endc r : Nat) : Int)) ∧ Only (fun k => k = g) w w') := by
  cases r with
  | ok u rest =>
    obtain ⟨⟨pre, hp⟩, h1⟩ := h
    refine (ref8r_end rest g B l.length cb w h1 (by rw [hp, List.length_append]; omega)).mono ?_
    rintro e w' ⟨he, ho⟩
    refine ⟨?_, ho⟩
    rw [he]
    unfold endc
    dsimp only
    split <;> rfl
  | er n =>
    obtain ⟨h0, a, h1⟩ := h
    have z2 := h1.c2
    have t0 : ((n : Int) == 0) = false := by simp; omega
    have t1 : decide ((n : Int) = 0) = false := decide_eq_false (by omega)
    have t2 : decide (n = 0) = false := decide_eq_false (by omega)
    clear h1 h0
    show Calls _ _ _ _ (fun e w' => e = .returned (.int .i64 (n : Int)) ∧ _)
    go_enter Try.func40, Try.ntmps40
    go_wp2
    go_quiet (fail)
    go_wp2
    go_ret
    exact ⟨rfl, (Only.refl _ w).drewN nq⟩
end Go.Proofs.Ytnfgokbopndmgaa

/-
  Bytes in a block of a call's own, that are changed one by one; what stays while other blocks are written. Conditions: none.
-/
namespace Go.Proofs.Ytnfgokbopndmgaa
open Go.RowKit
open Pol (co Sm trim)

/-- The first n cells of block g are the bytes F, and may be written. -/
def Cells (w : World) (g n : Nat) (F : Nat → Nat) : Prop := ∀ i, i < n → w.cell? ⟨g, i, none⟩ = some (.int .u8 ((F i : Nat) : Int)) ∧ w.frozen? ⟨g, i, none⟩ = false
theorem Blk.cells {w : World} {g n : Nat} {F : Nat → Nat} (h : Blk w g n F) : Cells w g n F := fun i hi => ⟨h.cell i hi, h.frozen i⟩
theorem Cells.drewN {w : World} {g n : Nat} {F : Nat → Nat} (h : Cells w g n F) (k : Nat) : Cells (w.drewN k) g n F := h
theorem Cells.congr {w : World} {g n : Nat} {F F' : Nat → Nat} (h : Cells w g n F) (hf : ∀ i, i < n → F i = F' i) : Cells w g n F' := fun i hi => ⟨by rw [(h i hi).1, hf i hi], (h i hi).2⟩
theorem Cells.store {w : World} {g n : Nat} {F : Nat → Nat} (h : Cells w g n F) (k v : Nat) : Cells (w.setCell ⟨g, k, none⟩ (.int .u8 (v : Int))) g n (upd F k v) := fun i hi => by
  refine ⟨?_, by rw [World.frozen?_setCell]; exact (h i hi).2⟩
  unfold upd
  by_cases e : i = k
  · subst e
    rw [if_pos rfl]
    exact World.cell?_setCell_same' _ _ _ (by rw [(h i hi).1]; rfl)
  · rw [if_neg e, World.cell?_setCell_other _ _ _ _ (fun h => e (by cases h; rfl))]
    exact (h i hi).1
theorem Cells.keep {w w' : World} {g n : Nat} {F : Nat → Nat} {row : Option Nat} (h : Cells w g n F) (hg : w.grownBy w' row) (hne : some g ≠ row) : Cells w' g n F := fun i hi =>
  ⟨hg.cell (h i hi).1 hne, (World.frozen?_of_block (a := ⟨g, i, none⟩) (hg.block g (block_lt_of_cell (h i hi).1) hne)).trans (h i hi).2⟩
theorem Cells.ext {w w' : World} {g n : Nat} {F : Nat → Nat} (h : Cells w g n F) (hx : Ext w w') : Cells w' g n F := fun i hi =>
  ⟨(hx.below.cell (p := ⟨g, i, none⟩) (block_lt_of_cell (h i hi).1)).trans (h i hi).1, (hx.below.frozen (p := ⟨g, i, none⟩) (block_lt_of_cell (h i hi).1)).trans (h i hi).2⟩
theorem Cells.reads {w : World} {g n : Nat} {F : Nat → Nat} (h : Cells w g n F) (hs : ∀ i, i < n → F i < 256) : Rd w (some ⟨g, 0, none⟩) (tab n F) :=
  ⟨tab_sm n F hs, fun i hi => ⟨g, 0, rfl, by
    rw [tab_len] at hi
    rw [Nat.zero_add, (h i hi).1, co_tab, if_pos hi]⟩⟩
theorem Rd.keep {w w' : World} {A : Option Addr} {l : List Nat} {row : Option Nat} (h : Rd w A l) (hg : w.grownBy w' row) (hne : ∀ b o, A = some ⟨b, o, none⟩ → 0 < l.length → some b ≠ row) : Rd w' A l :=
  ⟨h.1, fun i hi => by
    obtain ⟨b, o, e, hc⟩ := h.2 i hi
    exact ⟨b, o, e, hg.cell hc (hne b o e (by omega))⟩⟩
theorem grown_set (w : World) (g o : Nat) (v : Value) : w.grownBy (w.setCell ⟨g, o, none⟩ v) (some g) :=
  ⟨rfl, rfl, rfl, by simp [World.setCell], fun k _ hk => Below.heap_setCell _ _ _ k (fun e => hk (by rw [e]))⟩
theorem grown_drewN (w : World) (n : Nat) (row : Option Nat) : w.grownBy (w.drewN n) row := ⟨rfl, rfl, rfl, Nat.le_refl _, fun _ _ _ => rfl⟩
theorem Ext.grown {w w' : World} (h : Ext w w') (row : Option Nat) : w.grownBy w' row := ⟨h.below.os, h.below.tape, h.below.output, h.below.size, fun k hk _ => h.below.block k hk⟩

/-- s[l:] of bytes, where the capacity goes on. -/
theorem run_from_u8 (g o len cap l : Nat) (h : l ≤ len) (hc : l < cap) (W : World) :
    (Instr.slice 23 (.slice (some ⟨g, o, none⟩) len cap) (some (.int .i64 (l : Int))) none none).run Try.prog W = .ok (.slice (some ⟨g, o + l, none⟩) (len - l) (cap - l)) W := by
  obtain ⟨i0, hi, hz0, hz1, hz2⟩ := info_parts u8_info
  have he : Try.prog.elem 23 = 5 := by kernel_rfl
  rw [run_slice_l W 23 _ len cap (by rw [he]; exact Try.underlying23) .i64 (l : Int) (by omega) (by omega), he]
  simp [sizeOf, typeInfo, hi, hz1, Result.andThen, sliced, addr_add]
  omega

/-- A slice of the call's own, as cells that may be written. -/
theorem Mine.cells {w : World} {base : Nat} {v : Value} {l : List Nat} (hm : Mine w base v l) : ∃ A c g, v = .slice A l.length c ∧ l.length ≤ c ∧ (0 < l.length → A = some ⟨g, 0, none⟩ ∧ base ≤ g) ∧ Cells w g l.length (co l) := by
  rcases hm.2 with ⟨rfl, hn⟩ | ⟨g, cap, cur, rfl, hb, hg, hnc, _, _, htake⟩
  · have : l = [] := List.eq_nil_of_length_eq_zero hn
    subst this
    exact ⟨none, 0, 0, rfl, Nat.le_refl _, fun h => absurd h (by simp), fun i hi => absurd hi (by simp)⟩
  · refine ⟨_, cap, g, rfl, hnc, fun _ => ⟨rfl, hb⟩, fun i hi => ⟨?_, frozen_of_row w g i cur _ hg⟩⟩
    rw [cell_of_row w g i cur _ _ hg, ← bv_at l i hi, ← htake, List.getElem?_take, if_pos (by omega)]
    simp
end Go.Proofs.Ytnfgokbopndmgaa

/-
  What the document's own Decode of layer 14 does. Conditions: no more than 2^16 bytes.
-/
namespace Go.Proofs.Ytnfgokbopndmgaa
open Go.RowKit
open Pol (co Sm)

/-- An order that was read, and the error's number. -/
def DecR (b : List Nat) (w : World) (e : Ending) (w' : World) : Prop :=
  Ext w w' ∧ ∃ B n c, e = .returned (.tuple #[.agg #[.int .i64 (dec14 b).2.k, .int .i64 (dec14 b).2.t, .int .u64 (((dec14 b).2.a : Nat) : Int), .slice B n c], .int .i64 (((dec14 b).1 : Nat) : Int)]) ∧ (dec14 b).2.m.length = n ∧ n ≤ c ∧ Rd w' B (dec14 b).2.m
/-- The reader's steps, and what they come to. -/
theorem dec14_steps (b : List Nat) : ∃ (r1 : Rs Nat) (r2 : Rs Nat) (r3 : Rs Nat) (r4 : Rs (List Nat)), r1 = (Rs.ok () b).bind (fun _ rest => rdN 2 rest) ∧ r2 = r1.unit.bind (fun _ rest => rdN 5 rest) ∧ r3 = r2.unit.bind (fun _ rest => rdN 18446744073709551615 rest) ∧ r4 = r3.unit.bind (fun _ rest => rdT 16 rest) ∧
    dec14 b = (if endc r4.unit ≠ 0 then (endc r4.unit, Od.zero) else if Od.right ⟨((r1.val 0 : Nat) : Int), ((r2.val 0 : Nat) : Int), r3.val 0, r4.val []⟩ then (0, ⟨((r1.val 0 : Nat) : Int), ((r2.val 0 : Nat) : Int), r3.val 0, r4.val []⟩) else (14, Od.zero)) := by
  refine ⟨_, _, _, _, rfl, rfl, rfl, rfl, ?_⟩
  unfold dec14 rdO
  show _ = _
  cases h1 : rdN 2 b with
  | er n =>
    have hn := (rdN_er h1).1
    simp only [Rs.bind, h1, Rs.unit, Rs.val, endc]
    rw [if_pos (by omega)]
  | ok k b1 =>
    cases h2 : rdN 5 b1 with
    | er n =>
      have hn := (rdN_er h2).1
      simp only [Rs.bind, h1, h2, Rs.unit, Rs.val, endc]
      rw [if_pos (by omega)]
    | ok t b2 =>
      cases h3 : rdN 18446744073709551615 b2 with
      | er n =>
        have hn := (rdN_er h3).1
        simp only [Rs.bind, h1, h2, h3, Rs.unit, Rs.val, endc]
        rw [if_pos (by omega)]
      | ok a b3 =>
        cases h4 : rdT 16 b3 with
        | er n =>
          have hn := (rdT_er h4).1
          simp only [Rs.bind, h1, h2, h3, h4, Rs.unit, Rs.val, endc]
          rw [if_pos (by omega)]
        | ok m b4 =>
          simp only [Rs.bind, h1, h2, h3, h4, Rs.unit, Rs.val, endc]
          by_cases hb : b4 = []
          · rw [if_pos hb, if_neg (by simpa using hb), if_neg (show ¬ (0 ≠ 0) from fun h => h rfl)]
          · rw [if_neg hb, if_pos hb, if_pos (by simp)]
theorem rdN_val_le {m : Nat} {l : List Nat} (hs : Sm l) : (rdN m l).val 0 ≤ m := by
  cases h : rdN m l with
  | er n => exact Nat.zero_le _
  | ok n rest => exact (vn_rdN hs h).2.2
theorem stn_val {l : List Nat} {g cb m : Nat} {B : Option Addr} {w : World} {r : Rs Unit} (h : Stn l g B cb w r) (hs : Sm l) : (r.bind fun _ rest => rdN m rest).val 0 ≤ m := by
  cases r with
  | er n => exact Nat.zero_le _
  | ok u rest =>
    obtain ⟨⟨pre, hp⟩, _⟩ := h
    rw [hp] at hs
    exact rdN_val_le (sm_split hs).2
theorem results_tx14 {fn : Func} {p u : Tmp} (h : fn.results = #[.cell p 25, .tmp u]) (tmps : Array Value) (w : World) (g : Nat) (t : TypeId) (cs : Array Value) (fr : Nat × Nat)
    (hp : tmps.getD p undef = .pointer (some ⟨g, 0, none⟩)) (hg : w.heap[g]? = some (.cells cs t fr)) (hi : (Try.prog.info? 25).map (·.size) = some cs.size) :
    (results fn tmps).run Try.prog w = .ok (.tuple #[.agg cs, tmps.getD u undef]) w := by
  have hl := run_loadVar_row w g t 25 cs fr _ hg Try.underlying25 rfl hi
  rw [results_cell_tmp h, hp]
  simp [asAddr, Result.andThen, hl]
theorem tx_size14 : (#[.int .i64 0, .int .i64 0, .int .u64 0, .slice none 0 0] : Array Value).size = (#[.int .i64 0, .int .i64 0, .int .u64 0, .slice none 0 0] : Array Value).size := rfl
set_option maxHeartbeats 6400000 in
set_option maxRecDepth 100000 in
theorem ref14_decode (b : List Nat) (A : Option Addr) (n c : Nat) (w : World) (hn : b.length = n) (hr : Rd w A b) (hc : n ≤ c) (hl : n ≤ 65536) :
    Calls Try.prog 13 #[.slice A n c] w (DecR b w) := by
  unfold DecR
  obtain ⟨r1, r2, r3, r4, e1, e2, e3, e4, hdec⟩ := dec14_steps b
  have HDEC := Lib.hid hdec
  have HSB := Lib.hid hr.1
  have HFAR := Lib.hid (show ∀ q o, A = some ⟨q, o, none⟩ → 0 < b.length → q ≠ w.heap.size + 1 from fun q o e h0 => by have := hr.block' q o e h0; omega)
  have HRD := Lib.hid (fun u (h : Ext w u) => hr.ext h)
  have HCB := Lib.hid (show b.length ≤ c by omega)
  have HLB := Lib.hid (show b.length ≤ 65536 by omega)
  have hx0 : Ext w ((w.alloc (.cells #[.int .i64 0, .int .i64 0, .int .u64 0, .slice none 0 0] 25)).alloc (.cells #[.slice A n c, .int .i64 0, .int .i64 0] 71)) := ((Ext.refl w).alloc _).alloc _
  have hR0 : ((w.alloc (.cells #[.int .i64 0, .int .i64 0, .int .u64 0, .slice none 0 0] 25)).alloc (.cells #[.slice A n c, .int .i64 0, .int .i64 0] 71)).heap[w.heap.size]? = some (.cells #[.int .i64 0, .int .i64 0, .int .u64 0, .slice none 0 0] 25) := by
    rw [heap_alloc_old _ _ (by simp)]
    exact heap_alloc_new w _
  have hg0 : ((w.alloc (.cells #[.int .i64 0, .int .i64 0, .int .u64 0, .slice none 0 0] 25)).alloc (.cells #[.slice A n c, .int .i64 0, .int .i64 0] 71)).heap[w.heap.size + 1]? = some (.cells #[.slice A n c, .int .i64 0, .int .i64 0] 71) := by
    have h := heap_alloc_new (w.alloc (.cells #[.int .i64 0, .int .i64 0, .int .u64 0, .slice none 0 0] 25)) (.cells #[.slice A n c, .int .i64 0, .int .i64 0] 71)
    rwa [show (w.alloc (.cells #[.int .i64 0, .int .i64 0, .int .u64 0, .slice none 0 0] 25)).heap.size = w.heap.size + 1 from by simp] at h
  have HX0 := Lib.hid hx0
  have HR0 := Lib.hid hR0
  have HS0 := Lib.hid (show Stn b (w.heap.size + 1) A c _ (.ok () b) from ⟨⟨[], rfl⟩, by rw [cell_of_row _ _ 0 _ _ _ hg0, hn]; rfl, by rw [cell_of_row _ _ 1 _ _ _ hg0, Nat.sub_self]; rfl, by rw [cell_of_row _ _ 2 _ _ _ hg0]; rfl, frozen_of_row _ _ 1 _ _ hg0, frozen_of_row _ _ 2 _ _ hg0⟩)
  clear hr hx0 hR0 hg0 hdec
  obtain ⟨g, hgd⟩ : ∃ g, w.heap.size + 1 = g := ⟨_, rfl⟩
  have HGD := Lib.hid hgd
  rw [hgd] at HS0 HFAR
  clear hgd
  go_enter Try.func13, Try.ntmps13
  go_wp2_with fail
  rw [HGD.out]
  refine (rd14_number b g A c 2 _ _ (HRD.out _ HX0.out) HFAR.out HLB.out (by decide) HS0.out).mono ?_
  rintro e w1 ⟨ho, rfl, hs⟩
  have hv := stn_val (m := 2) HS0.out HSB.out
  rw [← e1] at hs hv ⊢
  obtain ⟨v1, hv1⟩ : ∃ v, r1.val 0 = v := ⟨_, rfl⟩
  rw [hv1] at hv ⊢
  have HV1 := Lib.hid hv1
  have HX1 := Lib.hid (ho.ext HX0.out (fun q e => by have := HGD.out; omega))
  have HS1 := Lib.hid hs
  have HR1 := Lib.hid (ho.row HR0.out (by have := HGD.out; omega))
  have x1 : IntKind.i64.wrap (v1 : Int) = (v1 : Int) := by rw [IntKind.wrap_i64]; omega
  clear ho hs hv hv1
  go_wp2_with fail
  refine (rd14_number b g A c 5 _ _ (HRD.out _ HX1.out) HFAR.out HLB.out (by decide) HS1.out).mono ?_
  rintro e w2 ⟨ho, rfl, hs⟩
  have hv := stn_val (m := 5) HS1.out HSB.out
  rw [← e2] at hs hv ⊢
  obtain ⟨v2, hv2⟩ : ∃ v, r2.val 0 = v := ⟨_, rfl⟩
  rw [hv2] at hv ⊢
  have HV2 := Lib.hid hv2
  have HX2 := Lib.hid (ho.ext HX1.out (fun q e => by have := HGD.out; omega))
  have HS2 := Lib.hid hs
  have HR2 := Lib.hid (ho.row HR1.out (by have := HGD.out; omega))
  have x2 : IntKind.i64.wrap (v2 : Int) = (v2 : Int) := by rw [IntKind.wrap_i64]; omega
  clear ho hs hv hv2
  -- the order under way lies in block w2.heap.size
  have HXa := Lib.hid (HX2.out.alloc (.cells #[.int .i64 (v1 : Int), .int .i64 (v2 : Int), .int .u64 0, .slice none 0 0] 25))
  have HSa := Lib.hid (HS2.out.ext ((Ext.refl w2).alloc (.cells #[.int .i64 (v1 : Int), .int .i64 (v2 : Int), .int .u64 0, .slice none 0 0] 25)))
  have HRa := Lib.hid (((Ext.refl w2).alloc (.cells #[.int .i64 (v1 : Int), .int .i64 (v2 : Int), .int .u64 0, .slice none 0 0] 25)).row HR2.out)
  have HTa := Lib.hid (heap_alloc_new w2 (.cells #[.int .i64 (v1 : Int), .int .i64 (v2 : Int), .int .u64 0, .slice none 0 0] 25))
  have HTg := Lib.hid (show g < w2.heap.size ∧ w.heap.size < w2.heap.size from ⟨HS2.out.lt, by have h1 := HS2.out.lt; have h2 := HGD.out; omega⟩)
  obtain ⟨T, hT⟩ : ∃ T, w2.heap.size = T := ⟨_, rfl⟩
  go_wp2_with fail
  rw [hT] at HTa HTg
  clear hT HX2 HS2 HR2 HX1 HS1 HR1 HX0 HS0 HR0
  generalize w2.alloc (.cells #[.int .i64 (v1 : Int), .int .i64 (v2 : Int), .int .u64 0, .slice none 0 0] 25) = wa at HXa HSa HRa HTa ⊢
  refine (rd14_number b g A c 18446744073709551615 _ _ (HRD.out _ HXa.out) HFAR.out HLB.out (by decide) HSa.out).mono ?_
  rintro e w3 ⟨ho, rfl, hs⟩
  rw [← e3] at hs ⊢
  obtain ⟨v3, hv3⟩ : ∃ v, r3.val 0 = v := ⟨_, rfl⟩
  rw [hv3]
  have HV3 := Lib.hid hv3
  have ht3 := ho.row HTa.out (fun e => by have := HTg.out; omega)
  have hx3 := ho.ext HXa.out (fun q e => by have := HGD.out; omega)
  have t2 := cell_of_row _ T 2 _ _ _ ht3
  simp only [List.getElem?_toArray, List.getElem?_cons_zero, List.getElem?_cons_succ] at t2
  have z2 : w3.frozen? ⟨T, 2, none⟩ = false := frozen_of_row _ T 2 _ _ ht3
  have HT3 := Lib.hid (heap_setCell_same w3 T 2 _ _ (.int .u64 (v3 : Int)) ht3)
  have HX3 := Lib.hid (hx3.setCell (p := ⟨T, 2, none⟩) (by have := HTg.out; dsimp only; omega) (.int .u64 (v3 : Int)))
  have HR3 := Lib.hid ((heap_setCell_other w3 ⟨T, 2, none⟩ w.heap.size (.int .u64 (v3 : Int)) (by have := HTg.out; dsimp only; omega)).trans (ho.row HRa.out (by have := HGD.out; omega)))
  have HS3 := Lib.hid (hs.only (X := fun k => k = T) (Only.of_grown (grown_set' w3 T 2 (.int .u64 (v3 : Int))) (fun k e => by injection e with e; exact e.symm)) (by have := HTg.out; omega))
  clear ho hs hv3 ht3 hx3 HXa HSa HRa HTa
  go_wp2_with fail
  generalize w3.setCell ⟨T, 2, none⟩ (.int .u64 (v3 : Int)) = wb at HT3 HX3 HR3 HS3 ⊢
  clear t2 z2
  refine (rd14_text b g A c 16 _ _ (HRD.out _ HX3.out) HCB.out HFAR.out HLB.out (by decide) HS3.out).mono ?_
  rintro e w4 ⟨ho, ⟨D, n4, c4, rfl, hn4, hc4, hD, hDb⟩, hs⟩
  rw [← e4] at hs hn4 hD
  obtain ⟨V4, hV4⟩ : ∃ v, r4.val [] = v := ⟨_, rfl⟩
  rw [hV4] at hn4 hD
  have HV4 := Lib.hid hV4
  have ht4 := ho.row HT3.out (fun e => by have := HTg.out; omega)
  have hx4 := ho.ext HX3.out (fun q e => by have := HGD.out; omega)
  have t3 := cell_of_row _ T 3 _ _ _ ht4
  simp only [List.getElem?_toArray, Array.setIfInBounds, List.size_toArray, List.length_cons, List.length_nil, Nat.zero_add, Nat.reduceAdd, Nat.reduceLT, dite_true, List.set_toArray, List.set_cons_zero, List.set_cons_succ, List.getElem?_cons_zero, List.getElem?_cons_succ] at t3
  have z3 : w4.frozen? ⟨T, 3, none⟩ = false := frozen_of_row _ T 3 _ _ ht4
  have HT4 := Lib.hid (heap_setCell_same w4 T 3 _ _ (.slice D n4 c4) ht4)
  have HX4 := Lib.hid (hx4.setCell (p := ⟨T, 3, none⟩) (by have := HTg.out; dsimp only; omega) (.slice D n4 c4))
  have HR4 := Lib.hid ((heap_setCell_other w4 ⟨T, 3, none⟩ w.heap.size (.slice D n4 c4) (by have := HTg.out; dsimp only; omega)).trans (ho.row HR3.out (by have := HGD.out; omega)))
  have HS4 := Lib.hid (hs.only (X := fun k => k = T) (Only.of_grown (grown_set' w4 T 3 (.slice D n4 c4)) (fun k e => by injection e with e; exact e.symm)) (by have := HTg.out; omega))
  have HDB := Lib.hid (show ∀ q o, D = some ⟨q, o, none⟩ → 0 < V4.length → q ≠ g ∧ q ≠ T ∧ q ≠ w.heap.size from fun q o e h0 => by
    have h1 := hDb q o e (by omega)
    have h2 := row_lt HT3.out
    have h3 := HTg.out
    omega)
  have HD4 := Lib.hid (show Rd (w4.setCell ⟨T, 3, none⟩ (.slice D n4 c4)) D V4 from hD.keep (grown_set' w4 T 3 (.slice D n4 c4)) (fun q o e h0 e2 => by injection e2 with e2; exact (HDB.out q o e h0).2.1 e2))
  have HN4 := Lib.hid (And.intro hn4 hc4)
  clear ho hs hn4 hc4 hD hDb hV4 ht4 hx4 HX3 HS3 HR3 HT3
  go_wp2_with fail
  generalize w4.setCell ⟨T, 3, none⟩ (.slice D n4 c4) = wc at HT4 HX4 HR4 HS4 HD4 ⊢
  clear t3 z3
  refine (rd14_end b g A c _ _ HS4.out).mono ?_
  rintro e w5 ⟨rfl, ho⟩
  have HT5 := Lib.hid (ho.row HT4.out (fun e => by have := HTg.out; omega))
  have HX5 := Lib.hid (ho.ext HX4.out (fun q e => by have := HGD.out; omega))
  have HR5 := Lib.hid (ho.row HR4.out (by have := HGD.out; omega))
  have HD5 := Lib.hid (rd_keep HD4.out ho (fun q o e h0 => (HDB.out q o e h0).1))
  rw [HV1.out, HV2.out, HV3.out, HV4.out] at HDEC
  clear ho HX4 HS4 HR4 HT4 HD4 e1 e2 e3 e4
  obtain ⟨ec, hec⟩ : ∃ ec, endc r4.unit = ec := ⟨_, rfl⟩
  rw [hec] at HDEC ⊢
  by_cases hec0 : ec = 0
  · rw [if_neg (by simpa using hec0)] at HDEC
    subst hec0
    have q0 := cell_of_row _ T 0 _ _ _ HT5.out
    have q1 := cell_of_row _ T 1 _ _ _ HT5.out
    have q2 := cell_of_row _ T 2 _ _ _ HT5.out
    have q3 := cell_of_row _ T 3 _ _ _ HT5.out
    simp only [List.getElem?_toArray, Array.setIfInBounds, List.size_toArray, List.length_cons, List.length_nil, Nat.zero_add, Nat.reduceAdd, Nat.reduceLT, dite_true, List.set_toArray, List.set_cons_zero, List.set_cons_succ, List.getElem?_cons_zero, List.getElem?_cons_succ] at q0 q1 q2 q3
    have HRI := Lib.hid (fun u => ref14_right (v1 : Int) (v2 : Int) v3 n4 c4 D u)
    rw [right_is HN4.out.1] at HRI
    go_wp2_with fail
    refine (HRI.out w5).mono ?_
    rintro e w6 ⟨rfl, hx6⟩
    have HX6 := Lib.hid (HX5.out.trans hx6)
    have HR6 := Lib.hid (hx6.row HR5.out)
    have HD6 := Lib.hid (HD5.out.ext hx6)
    have p0 := hx6.at q0
    have p1 := hx6.at q1
    have p2 := hx6.at q2
    have p3 := hx6.at q3
    clear hx6 q0 q1 q2 q3
    by_cases ho : Od.right ⟨(v1 : Int), (v2 : Int), v3, V4⟩
    · rw [if_pos ho] at HDEC
      rw [decide_eq_true ho]
      have hin : (Try.prog.info? 25).map (·.size) = some (#[.int .i64 (v1 : Int), .int .i64 (v2 : Int), .int .u64 (v3 : Int), .slice D n4 c4] : Array Value).size := by kernel_rfl
      have HSZ := Lib.hid (show (#[.int .i64 0, .int .i64 0, .int .u64 0, .slice none 0 0] : Array Value).size = (#[.int .i64 (v1 : Int), .int .i64 (v2 : Int), .int .u64 (v3 : Int), .slice D n4 c4] : Array Value).size from rfl)
      have hone : (#[.int .i64 (v1 : Int), .int .i64 (v2 : Int), .int .u64 (v3 : Int), .slice D n4 c4] : Array Value).all (·.oneCell') = true := by simp [Value.oneCell']
      have HXF := Lib.hid (HX6.out.setRow (Nat.le_refl _) #[.int .i64 (v1 : Int), .int .i64 (v2 : Int), .int .u64 (v3 : Int), .slice D n4 c4])
      have HGF := Lib.hid (setRow_heap w6 w.heap.size _ #[.int .i64 (v1 : Int), .int .i64 (v2 : Int), .int .u64 (v3 : Int), .slice D n4 c4] _ _ HR6.out)
      go_wp2_with (with_reducible refine wpList_store_all rfl 25 (.tmp 2) (.tmp 33) rfl w.heap.size _ #[.int .i64 (v1 : Int), .int .i64 (v2 : Int), .int .u64 (v3 : Int), .slice D n4 c4] rfl rfl HR6.out hin HSZ.out hone ?_)
      refine bodyPost_ret (results_tx14 Try.results13 _ _ w.heap.size 25 _ (0, 0) rfl HGF.out hin) rfl ?_
      rw [HDEC.out]
      exact ⟨HXF.out, D, n4, c4, rfl, HN4.out.1, HN4.out.2, HD6.out.keep (grown_block w6 w.heap.size #[.int .i64 (v1 : Int), .int .i64 (v2 : Int), .int .u64 (v3 : Int), .slice D n4 c4]) (fun q o e h0 e2 => by injection e2 with e2; exact (HDB.out q o e h0).2.2 e2)⟩
    · rw [if_neg ho] at HDEC
      rw [decide_eq_false ho]
      have hin : (Try.prog.info? 25).map (·.size) = some (#[.int .i64 0, .int .i64 0, .int .u64 0, .slice none 0 0] : Array Value).size := by kernel_rfl
      have hone : (#[.int .i64 0, .int .i64 0, .int .u64 0, .slice none 0 0] : Array Value).all (·.oneCell') = true := by simp [Value.oneCell']
      have HXF := Lib.hid (HX6.out.setRow (Nat.le_refl _) #[.int .i64 0, .int .i64 0, .int .u64 0, .slice none 0 0])
      have HGF := Lib.hid (setRow_heap w6 w.heap.size _ #[.int .i64 0, .int .i64 0, .int .u64 0, .slice none 0 0] _ _ HR6.out)
      go_wp2_with (with_reducible refine wpList_store_all rfl 25 (.tmp 2) (.tmp 32) rfl w.heap.size _ #[.int .i64 0, .int .i64 0, .int .u64 0, .slice none 0 0] rfl rfl HR6.out hin tx_size14 hone ?_)
      refine bodyPost_ret (results_tx14 Try.results13 _ _ w.heap.size 25 _ (0, 0) rfl HGF.out hin) rfl ?_
      rw [HDEC.out]
      exact ⟨HXF.out, none, 0, 0, rfl, rfl, Nat.le_refl _, Rd.nil _ _⟩
  · rw [if_pos hec0] at HDEC
    have d1 : ((ec : Int) == 0) = false := by simp; omega
    have d1' : ((ec : Int) != 0) = true := by simp; omega
    have d1'' : decide ((ec : Int) = 0) = false := decide_eq_false (by omega)
    have d1''' : decide (ec = 0) = false := decide_eq_false hec0
    have hin : (Try.prog.info? 25).map (·.size) = some (#[.int .i64 0, .int .i64 0, .int .u64 0, .slice none 0 0] : Array Value).size := by kernel_rfl
    have hone : (#[.int .i64 0, .int .i64 0, .int .u64 0, .slice none 0 0] : Array Value).all (·.oneCell') = true := by simp [Value.oneCell']
    have HXF := Lib.hid (HX5.out.setRow (Nat.le_refl _) #[.int .i64 0, .int .i64 0, .int .u64 0, .slice none 0 0])
    have HGF := Lib.hid (setRow_heap w5 w.heap.size _ #[.int .i64 0, .int .i64 0, .int .u64 0, .slice none 0 0] _ _ HR5.out)
    go_wp2_with (with_reducible refine wpList_store_all rfl 25 (.tmp 2) (.tmp 27) rfl w.heap.size _ #[.int .i64 0, .int .i64 0, .int .u64 0, .slice none 0 0] rfl rfl HR5.out hin tx_size14 hone ?_)
    refine bodyPost_ret (results_tx14 Try.results13 _ _ w.heap.size 25 _ (0, 0) rfl HGF.out hin) rfl ?_
    rw [HDEC.out]
    exact ⟨HXF.out, none, 0, 0, rfl, rfl, Nat.le_refl _, Rd.nil _ _⟩
end Go.Proofs.Ytnfgokbopndmgaa

/-
  Layer 14: what the code's own functions are to do; the statements' own comparison of orders; the first call. Conditions: none.
-/
namespace Go.Proofs.Ytnfgokbopndmgaa
open Go.RowKit
open Pol (co Sm)

structure TxSaid : Prop where
  enc : ∀ (k t : Int) (a n c : Nat) (m : List Nat) (A : Option Addr) (w : World), m.length = n → Rd w A m → n ≤ c → n ≤ 65536 → a < 18446744073709551616 →
    Calls Try.prog 10 #[.agg #[.int .i64 k, .int .i64 t, .int .u64 (a : Int), .slice A n c]] w (EncR ⟨k, t, a, m⟩ w)
  dec : ∀ (b : List Nat) (A : Option Addr) (n c : Nat) (w : World), b.length = n → Rd w A b → n ≤ c → n ≤ 65536 →
    Calls Try.prog 12 #[.slice A n c] w (DecR b w)

theorem tx_in14 {a b c d : Value} : (Try.prog.info? 25).map (·.size) = some (#[a, b, c, d] : Array Value).size := by kernel_rfl
theorem tx_in14x {a b c d : Value} : (Try.prog.info? 30).map (·.size) = some (#[a, b, c, d] : Array Value).size := by kernel_rfl
theorem load_tx14 {w : World} {g : Nat} {a b c d : Value} {t : TypeId} {fr : Nat × Nat} (hg : w.heap[g]? = some (.cells #[a, b, c, d] t fr)) : (Instr.loadAt 25 (.pointer (some ⟨g, 0, none⟩))).run Try.prog w = .ok (.agg #[a, b, c, d]) w := by
  simp only [Instr.loadAt, Instr.sureAddr, Sem.run_bind, Sem.run_pure, Result.andThen]
  exact run_loadVar_row w g t _ _ fr _ hg Try.underlying25 rfl tx_in14
theorem load_tx14x {w : World} {g : Nat} {a b c d : Value} {t : TypeId} {fr : Nat × Nat} (hg : w.heap[g]? = some (.cells #[a, b, c, d] t fr)) : (Instr.loadAt 30 (.pointer (some ⟨g, 0, none⟩))).run Try.prog w = .ok (.agg #[a, b, c, d]) w := by
  simp only [Instr.loadAt, Instr.sureAddr, Sem.run_bind, Sem.run_pure, Result.andThen]
  exact run_loadVar_row w g t _ _ fr _ hg Try.underlying30 rfl tx_in14x
def Cls14 (u w : World) : Prop := Ext u w
theorem Od.right_code {o : Od} (h : o.right) : o.code = 0 := if_pos h
theorem Od.right_bytes {o : Od} (h : o.right) : o.bytes = o.enc := if_pos h
/-- Whether two lists of bytes are one. -/
theorem same14 (l m : List Nat) (A B : Option Addr) (n n' ca cb : Nat) (w : World) (hn : l.length = n) (hn' : m.length = n') (ha : Rd w A l) (hb : Rd w B m) (hl : n ≤ 1048576) :
    Calls Try.prog 14 #[.slice A n ca, .slice B n' cb] w (Tells (.bool (decide (l = m))) w) := by
  subst hn hn'
  by_cases h : l = m
  · rw [decide_eq_true h]
    subst h
    exact same_tells l A B ca cb w ha hb hl
  · rw [decide_eq_false h]
    exact (same_no l m A B ca cb w ha hb hl h).mono fun _ _ h => h.tells
theorem Od.eq_iff {o p : Od} : o = p ↔ o.k = p.k ∧ o.t = p.t ∧ o.a = p.a ∧ o.m = p.m := by
  constructor
  · rintro rfl; exact ⟨rfl, rfl, rfl, rfl⟩
  · obtain ⟨k, t, a, m⟩ := o
    obtain ⟨k', t', a', m'⟩ := p
    rintro ⟨h1, h2, h3, h4⟩
    dsimp only at h1 h2 h3 h4
    subst h1 h2 h3 h4
    rfl
instance : DecidableEq Od := fun _ _ => decidable_of_iff _ Od.eq_iff.symm
set_option maxHeartbeats 1600000 in
theorem law14_same (k t k' t' : Int) (a n c a' n' c' : Nat) (m m' : List Nat) (A A' : Option Addr) (w : World) (hn : m.length = n) (hn' : m'.length = n') (hr : Rd w A m) (hr' : Rd w A' m') (hl : n ≤ 1048576) :
    Calls Try.prog 15 #[.agg #[.int .i64 k, .int .i64 t, .int .u64 (a : Int), .slice A n c], .agg #[.int .i64 k', .int .i64 t', .int .u64 (a' : Int), .slice A' n' c']] w (Tells (.bool (decide ((⟨k, t, a, m⟩ : Od) = ⟨k', t', a', m'⟩))) w) := by
  by_cases h1 : k = k'
  · subst h1
    by_cases h2 : t = t'
    · subst h2
      by_cases h3 : a = a'
      · subst h3
        have HX := Lib.hid (((Ext.refl w).alloc (.cells #[.int .i64 k, .int .i64 t, .int .u64 (a : Int), .slice A n c] 30)).alloc (.cells #[.int .i64 k, .int .i64 t, .int .u64 (a : Int), .slice A' n' c'] 25))
        have HS := Lib.hid (same14 m m' A A' n n' c c' _ hn hn' (hr.ext HX.out) (hr'.ext HX.out) hl)
        rw [show decide ((⟨k, t, a, m⟩ : Od) = ⟨k, t, a, m'⟩) = decide (m = m') from decide_eq_decide.2 ⟨fun h => by injection h, fun h => by rw [h]⟩]
        clear hr hr' hl
        generalize decide (m = m') = q at *
        go_enter Try.func15, Try.ntmps15
        go_wp2_with fail
        refine HS.out.mono ?_
        rintro e w1 ⟨rfl, hx⟩
        have HX1 := Lib.hid (HX.out.trans hx)
        clear hx
        go_wp2
        go_ret
        exact ⟨rfl, HX1.out⟩
      · rw [decide_eq_false (show ¬ ((⟨k, t, a, m⟩ : Od) = ⟨k, t, a', m'⟩) from fun h => h3 (by injection h))]
        have t3 : ((a : Int) == (a' : Int)) = false := by simp; omega
        clear hr hr' hl
        go_enter Try.func15, Try.ntmps15
        go_wp2
        go_ret
        exact ⟨rfl, ((Ext.refl w).alloc _).alloc _⟩
    · rw [decide_eq_false (show ¬ ((⟨k, t, a, m⟩ : Od) = ⟨k, t', a', m'⟩) from fun h => h2 (by injection h))]
      have t3 : (t == t') = false := by simp; omega
      clear hr hr' hl
      go_enter Try.func15, Try.ntmps15
      go_wp2
      go_ret
      exact ⟨rfl, ((Ext.refl w).alloc _).alloc _⟩
  · rw [decide_eq_false (show ¬ ((⟨k, t, a, m⟩ : Od) = ⟨k', t', a', m'⟩) from fun h => h1 (by injection h))]
    have t3 : (k == k') = false := by simp; omega
    clear hr hr' hl
    go_enter Try.func15, Try.ntmps15
    go_wp2
    go_ret
    exact ⟨rfl, ((Ext.refl w).alloc _).alloc _⟩
theorem ex14_right : Od.right ⟨1, 2, 300, []⟩ := by decide
theorem ex14_bytes : Od.bytes ⟨1, 2, 300, []⟩ = [1, 2, 172, 2, 0] := by
  have e : vn 300 = [172, 2] := by rw [vn_ge (by decide), vn_lt (by decide)]
  unfold Od.bytes
  rw [if_pos ex14_right]
  unfold Od.enc vt
  dsimp only
  rw [e]
  rw [show vn (Int.toNat 1) = [1] from vn_lt (by decide), show vn (Int.toNat 2) = [2] from vn_lt (by decide), show vn ([] : List Nat).length = [0] from vn_lt (by decide)]
  rfl
theorem ex14_sm : Sm [1, 2, 172, 2, 0] := Sm.cons (by decide) (Sm.cons (by decide) (Sm.cons (by decide) (Sm.cons (by decide) (Sm.cons (by decide) Sm.nil))))
theorem ex14_dec : dec14 [1, 2, 172, 2, 0] = (0, ⟨1, 2, 300, []⟩) := by
  have h := dec_enc ex14_right (by decide)
  rwa [show Od.enc ⟨1, 2, 300, []⟩ = [1, 2, 172, 2, 0] from by have := ex14_bytes; unfold Od.bytes at this; rwa [if_pos ex14_right] at this] at h
set_option maxHeartbeats 1600000 in
theorem awake14 (C : TxSaid) (w : World) : Calls Try.prog 9 #[] w (Holds w) := by
  have HE := Lib.hid (C.enc 1 2 300 0 0 [] none w rfl (Rd.nil _ _) (Nat.le_refl _) (by decide) (by decide))
  have HD := Lib.hid C.dec
  clear C
  go_enter Try.func9, Try.ntmps9
  go_wp2_with fail
  refine HE.out.mono ?_
  rintro e w1 ⟨hx1, B1, n1, c1, rfl, hn1, hc1, hr1⟩
  rw [ex14_bytes] at hn1 hr1
  rw [show Od.code ⟨1, 2, 300, []⟩ = 0 from if_pos ex14_right]
  have HD1 := Lib.hid (HD.out _ B1 n1 c1 w1 hn1 hr1 hc1 (by rw [← hn1]; decide))
  have HX1 := Lib.hid hx1
  have HR1 := Lib.hid hr1
  have HN1 := Lib.hid hn1
  clear hx1 hr1 hn1 HD HE
  go_wp2_with fail
  refine HD1.out.mono ?_
  rintro e w2 ⟨hx2, B2, n2, c2, rfl, hn2, hc2, hr2⟩
  simp only [ex14_dec]
  have HX2 := Lib.hid hx2
  have q1 := hx2.alloc (.cells #[.int .i64 1, .int .i64 2, .int .u64 300, .slice B2 n2 c2] 30)
  have q2 := q1.alloc (.cells #[.int .u8 1, .int .u8 2, .int .u8 172, .int .u8 2, .int .u8 0] 5)
  have HX3 := Lib.hid (HX1.out.trans q2)
  have HS := Lib.hid (same14 [1, 2, 172, 2, 0] [1, 2, 172, 2, 0] B1 (some ⟨w2.heap.size + 1, 0, none⟩) n1 5 c1 5 _ HN1.out rfl (HR1.out.ext q2) (rd_lit_next w2 _ [1, 2, 172, 2, 0] ex14_sm) (by rw [← HN1.out]; decide))
  have b2 := cell_of_row _ w2.heap.size 2 _ _ _ (heap_alloc_new w2 (.cells #[.int .i64 1, .int .i64 2, .int .u64 300, .slice B2 n2 c2] 30))
  have b3 := ((Ext.refl (w2.alloc (.cells #[.int .i64 1, .int .i64 2, .int .u64 300, .slice B2 n2 c2] 30))).alloc (.cells #[.int .u8 1, .int .u8 2, .int .u8 172, .int .u8 2, .int .u8 0] 5)).at b2
  have HB3 := Lib.hid (show World.cell? _ ⟨w2.heap.size, 2, none⟩ = some (.int .u64 300) from b3)
  rw [decide_eq_true (rfl : ([1, 2, 172, 2, 0] : List Nat) = [1, 2, 172, 2, 0])] at HS
  clear hx2 hr2 q1 q2 b2 b3
  go_wp2_with fail
  refine HS.out.mono ?_
  rintro e w3 ⟨rfl, hx3⟩
  have c3 := hx3.at HB3.out
  have HX4 := Lib.hid (HX3.out.trans hx3)
  clear hx3
  go_wp2
  go_ret
  exact ⟨rfl, HX4.out⟩
end Go.Proofs.Ytnfgokbopndmgaa

/-
  TxBack over TxSaid. Conditions: none.
-/
namespace Go.Proofs.Ytnfgokbopndmgaa
open Go.RowKit
open Pol (co Sm)

set_option maxHeartbeats 6400000 in
theorem back14_walk (C : TxSaid) (k t : Int) (a n c : Nat) (m : List Nat) (A : Option Addr) (b : List Nat) (B : Option Addr) (nb cb : Nat) (w : World) (hn : m.length = n) (hr : Rd w A m) (hc : n ≤ c) (ha : a < 18446744073709551616) (hnb : b.length = nb) (hrb : Rd w B b) (hcb : nb ≤ cb) :
    Calls Try.prog 4 #[.agg #[.int .i64 k, .int .i64 t, .int .u64 (a : Int), .slice A n c], .slice B nb cb] w (Holds w) := by
  have HAW := Lib.hid (fun u => awake14 C u)
  have HX0 := Lib.hid ((Ext.refl w).alloc (.cells #[.int .i64 k, .int .i64 t, .int .u64 (a : Int), .slice A n c] 25))
  have HG := Lib.hid (heap_alloc_new w (.cells #[.int .i64 k, .int .i64 t, .int .u64 (a : Int), .slice A n c] 25))
  have HB := Lib.hid (show World.cell? _ ⟨w.heap.size, 3, none⟩ = some (.slice A n c) from cell_of_row _ w.heap.size 3 _ _ _ HG.out)
  by_cases h1 : 100 < n
  · have d1 : decide ((n : Int) > 100) = true := decide_eq_true (by omega)
    have d1' : decide (100 < (n : Int)) = true := decide_eq_true (by omega)
    clear hr C hrb
    go_enter Try.func4, Try.ntmps4
    go_wp2_with fail
    refine (HAW.out _).mono ?_
    rintro e w1 ⟨rfl, hx1⟩
    have c1 := hx1.at HB.out
    have HX1 := Lib.hid (HX0.out.trans hx1)
    clear hx1
    go_wp2_with fail
    refine (HAW.out w1).mono ?_
    rintro e w2 ⟨rfl, hx2⟩
    have HX2 := Lib.hid (HX1.out.trans hx2)
    clear hx2
    go_wp2
    go_ret
    exact ⟨rfl, HX2.out⟩
  have d1 : decide ((n : Int) > 100) = false := decide_eq_false (by omega)
  have d1' : decide (100 < (n : Int)) = false := decide_eq_false (by omega)
  by_cases h2 : 100 < nb
  · have d2 : decide ((nb : Int) > 100) = true := decide_eq_true (by omega)
    have d2' : decide (100 < (nb : Int)) = true := decide_eq_true (by omega)
    clear hr C hrb
    go_enter Try.func4, Try.ntmps4
    go_wp2_with fail
    refine (HAW.out _).mono ?_
    rintro e w1 ⟨rfl, hx1⟩
    have c1 := hx1.at HB.out
    have HX1 := Lib.hid (HX0.out.trans hx1)
    clear hx1
    go_wp2_with fail
    refine (HAW.out w1).mono ?_
    rintro e w2 ⟨rfl, hx2⟩
    have HX2 := Lib.hid (HX1.out.trans hx2)
    clear hx2
    go_wp2
    go_ret
    exact ⟨rfl, HX2.out⟩
  have d2 : decide ((nb : Int) > 100) = false := decide_eq_false (by omega)
  have d2' : decide (100 < (nb : Int)) = false := decide_eq_false (by omega)
  have HEA := Lib.hid (fun u (hu : Ext w u) => C.enc k t a n c m A u hn (hr.ext hu) hc (by omega) ha)
  have HSO := Lib.hid (fun u (hu : Ext w u) n' c' (m' : List Nat) A' k' t' a' (h : m'.length = n') (hr' : Rd u A' m') (hl : n' ≤ 1048576) => law14_same k' t' k t a' n' c' a n c m' m A' A u h hn hr' (hr.ext hu) hl)
  obtain ⟨o, hod⟩ : ∃ o : Od, o = ⟨k, t, a, m⟩ := ⟨_, rfl⟩
  have HOD := Lib.hid hod
  rw [← hod] at HEA HSO
  have hlen : o.bytes.length ≤ 29 := Od.bytes_len (by rw [hod]; exact ha)
  obtain ⟨d0, ⟨k3, t3, a3, m3⟩, hd0⟩ : ∃ dn od, dec14 o.bytes = (dn, od) := ⟨_, _, rfl⟩
  have HBK := Lib.hid (show o.right → d0 = 0 ∧ (⟨k3, t3, a3, m3⟩ : Od) = o ∧ m3.length ≤ 16 from fun h => by
    have h1 := dec_enc h (by rw [hod]; exact ha)
    rw [← Od.right_bytes h, hd0] at h1
    injection h1 with h2 h3
    exact ⟨h2, h3, by have h4 := h.1; rw [← h3] at h4; exact h4⟩)
  have HDU := Lib.hid (fun Bx nx cx u (hn : o.bytes.length = nx) (hr : Rd u Bx o.bytes) (hc : nx ≤ cx) => C.dec o.bytes Bx nx cx u hn hr hc (by omega))
  obtain ⟨dn, ⟨k2, t2, a2, m2⟩, hd⟩ : ∃ dn od, dec14 b = (dn, od) := ⟨_, _, rfl⟩
  have hbo := dec_bounds hrb.1
  rw [hd] at hbo
  have HDW := Lib.hid (fun u (hu : Ext w u) => C.dec b B nb cb u hnb (hrb.ext hu) hcb (by omega))
  have HEW := Lib.hid (fun n' c' A' u (h : m2.length = n') (hr' : Rd u A' m2) (hc' : n' ≤ c') => C.enc k2 t2 a2 n' c' m2 A' u h hr' hc' (by have h1 := hbo.2.1; dsimp only at h1; omega) hbo.1)
  have HAG := Lib.hid (show dn = 0 → Od.code ⟨k2, t2, a2, m2⟩ = 0 ∧ Od.bytes ⟨k2, t2, a2, m2⟩ = b from fun h => by
    have h1 := dec_ok hrb.1 (by rw [hd]; exact h)
    rw [hd] at h1
    exact ⟨Od.right_code h1.1, (Od.right_bytes h1.1).trans h1.2.1⟩)
  have HSB := Lib.hid (fun By ny cy u (hu : Ext w u) (h : b.length = ny) (hr' : Rd u By b) => (same14 b b By B ny nb cy cb u h hnb hr' (hrb.ext hu) (by omega)).mono (R' := Tells (.bool true) u) fun _ _ h => ⟨by rw [h.1, decide_eq_true rfl], h.2⟩)
  unfold DecR at HDU HDW
  rw [hd0] at HDU
  rw [hd] at HDW
  dsimp only at HDU HDW
  unfold EncR at HEA HEW
  obtain ⟨oc, hoc⟩ : ∃ oc, o.code = oc := ⟨_, rfl⟩
  obtain ⟨oc2, hoc2⟩ : ∃ oc, Od.code ⟨k2, t2, a2, m2⟩ = oc := ⟨_, rfl⟩
  obtain ⟨by2, hby2⟩ : ∃ l, Od.bytes ⟨k2, t2, a2, m2⟩ = l := ⟨_, rfl⟩
  rw [hoc] at HEA
  rw [hoc2, hby2] at HEW
  rw [hoc2, hby2] at HAG
  have HTR := Lib.hid (show decide ((⟨k3, t3, a3, m3⟩ : Od) = o) = true ∨ oc ≠ 0 from by
    by_cases h : o.right
    · exact .inl (decide_eq_true (HBK.out h).2.1)
    · exact .inr (by rw [← hoc]; unfold Od.code; rw [if_neg h]; decide))
  have hcase : (oc = 0 ∧ d0 = 0 ∧ m3.length ≤ 16) ∨ oc = 1 := by
    rw [← hoc]
    by_cases h : o.right
    · exact .inl ⟨Od.right_code h, (HBK.out h).1, (HBK.out h).2.2⟩
    · exact .inr (by unfold Od.code; rw [if_neg h])
  have HLB := Lib.hid hlen
  clear hr hrb C hod hd hoc hd0 hoc2 hby2 HBK hbo hlen HOD
  rcases hcase with ⟨rfl, rfl, hm3⟩ | rfl
  · have HTRT := Lib.hid (show decide ((⟨k3, t3, a3, m3⟩ : Od) = o) = true from HTR.out.resolve_right (fun h => h rfl))
    clear HTR
    by_cases hz : dn = 0
    · obtain ⟨rfl, rfl⟩ := HAG.out hz
      subst hz
      clear HAG
      go_enter Try.func4, Try.ntmps4
      go_wp2_with fail
      refine (HAW.out _).mono ?_
      rintro e w1 ⟨rfl, hx1⟩
      have c1 := hx1.at HB.out
      have HG1 := Lib.hid (hx1.row HG.out)
      have HX1 := Lib.hid (HX0.out.trans hx1)
      clear hx1
      go_wp2_with (with_reducible refine wpList_load_row rfl 25 (.tmp 2) rfl (w.heap.size) rfl 25 #[.int .i64 k, .int .i64 t, .int .u64 (a : Int), .slice A n c] (0, 0) _ HG1.out Try.underlying25 rfl tx_in14 ?_)
      refine (HEA.out w1 HX1.out).mono ?_
      rintro e w2 ⟨hx2, Bx, nx, cx, rfl, hn2, hc2, hr2⟩
      have HG2 := Lib.hid (hx2.row HG1.out)
      have HX2 := Lib.hid (HX1.out.trans hx2)
      have HU2 := Lib.hid (HDU.out Bx nx cx w2 hn2 hr2 hc2)
      clear hx2 hn2 hr2 c1 HDU
      go_wp2_with fail
      refine HU2.out.mono ?_
      rintro e w3 ⟨hx3, B4, n4, c4, rfl, hn4, hc4, hr4⟩
      have q3 := hx3.alloc (.cells #[.int .i64 k3, .int .i64 t3, .int .u64 (a3 : Int), .slice B4 n4 c4] 30)
      have g1 := q3.row HG2.out
      have g3 := heap_alloc_new w3 (.cells #[.int .i64 k3, .int .i64 t3, .int .u64 (a3 : Int), .slice B4 n4 c4] 30)
      have HX3 := Lib.hid (HX2.out.trans q3)
      have HSU := Lib.hid (HSO.out _ HX3.out n4 c4 m3 B4 k3 t3 a3 hn4 (hr4.ext ((Ext.refl w3).alloc _)) (by omega))
      rw [HTRT.out] at HSU
      have p0 : World.cell? (w3.alloc (.cells #[.int .i64 k3, .int .i64 t3, .int .u64 (a3 : Int), .slice B4 n4 c4] 30)) ⟨w.heap.size, 0, none⟩ = some (.int .i64 k) := cell_of_row _ _ 0 _ _ _ g1
      have p1 : World.cell? (w3.alloc (.cells #[.int .i64 k3, .int .i64 t3, .int .u64 (a3 : Int), .slice B4 n4 c4] 30)) ⟨w.heap.size, 1, none⟩ = some (.int .i64 t) := cell_of_row _ _ 1 _ _ _ g1
      have p2 : World.cell? (w3.alloc (.cells #[.int .i64 k3, .int .i64 t3, .int .u64 (a3 : Int), .slice B4 n4 c4] 30)) ⟨w.heap.size, 2, none⟩ = some (.int .u64 (a : Int)) := cell_of_row _ _ 2 _ _ _ g1
      have p3 : World.cell? (w3.alloc (.cells #[.int .i64 k3, .int .i64 t3, .int .u64 (a3 : Int), .slice B4 n4 c4] 30)) ⟨w.heap.size, 3, none⟩ = some (.slice A n c) := cell_of_row _ _ 3 _ _ _ g1
      have q0 : World.cell? (w3.alloc (.cells #[.int .i64 k3, .int .i64 t3, .int .u64 (a3 : Int), .slice B4 n4 c4] 30)) ⟨w3.heap.size, 0, none⟩ = some (.int .i64 k3) := cell_of_row _ _ 0 _ _ _ g3
      have q1 : World.cell? (w3.alloc (.cells #[.int .i64 k3, .int .i64 t3, .int .u64 (a3 : Int), .slice B4 n4 c4] 30)) ⟨w3.heap.size, 1, none⟩ = some (.int .i64 t3) := cell_of_row _ _ 1 _ _ _ g3
      have q2 : World.cell? (w3.alloc (.cells #[.int .i64 k3, .int .i64 t3, .int .u64 (a3 : Int), .slice B4 n4 c4] 30)) ⟨w3.heap.size, 2, none⟩ = some (.int .u64 (a3 : Int)) := cell_of_row _ _ 2 _ _ _ g3
      have q3 : World.cell? (w3.alloc (.cells #[.int .i64 k3, .int .i64 t3, .int .u64 (a3 : Int), .slice B4 n4 c4] 30)) ⟨w3.heap.size, 3, none⟩ = some (.slice B4 n4 c4) := cell_of_row _ _ 3 _ _ _ g3
      clear hx3 hn4 hr4 q3 g1 g3
      go_wp2_with fail
      refine HSU.out.mono ?_
      rintro e w5 ⟨rfl, hx5⟩
      have HX5 := Lib.hid (HX3.out.trans hx5)
      clear hx5 p0 p1 p2 p3 q0 q1 q2 q3
      go_wp2_with fail
      refine (HDW.out w5 HX5.out).mono ?_
      rintro e w6 ⟨hx6, B6, n6, c6, rfl, hn6, hc6, hr6⟩
      have q6 := hx6.alloc (.cells #[.int .i64 k2, .int .i64 t2, .int .u64 (a2 : Int), .slice B6 n6 c6] 30)
      have HX6 := Lib.hid (HX5.out.trans q6)
      have HG6 := Lib.hid (heap_alloc_new w6 (.cells #[.int .i64 k2, .int .i64 t2, .int .u64 (a2 : Int), .slice B6 n6 c6] 30))
      have HE6 := Lib.hid (HEW.out n6 c6 B6 _ hn6 (hr6.ext ((Ext.refl w6).alloc (.cells #[.int .i64 k2, .int .i64 t2, .int .u64 (a2 : Int), .slice B6 n6 c6] 30))) hc6)
      clear hx6 hn6 hr6 q6 hc6
      go_wp2_with (with_reducible refine wpList_load_row rfl 30 (.tmp 9) rfl (w6.heap.size) rfl 30 #[.int .i64 k2, .int .i64 t2, .int .u64 (a2 : Int), .slice B6 n6 c6] (0, 0) _ HG6.out Try.underlying30 rfl tx_in14x ?_)
      refine HE6.out.mono ?_
      rintro e w7 ⟨hx7, By, ny, cy, rfl, hn7, hc7, hr7⟩
      have HX7 := Lib.hid (HX6.out.trans hx7)
      clear hx7 hc7
      have HS8 := Lib.hid (HSB.out By ny cy w7 HX7.out hn7 hr7)
      clear hn7 hr7
      go_wp2_with fail
      refine HS8.out.mono ?_
      rintro e w8 ⟨rfl, hx8⟩
      have HX8 := Lib.hid (HX7.out.trans hx8)
      clear hx8
      go_wp2
      go_ret
      exact ⟨rfl, HX8.out⟩
    · have dz : ((dn : Int) != 0) = true := by simp; omega
      have dz' : decide (dn = 0) = false := decide_eq_false hz
      clear HAG HSB hz
      go_enter Try.func4, Try.ntmps4
      go_wp2_with fail
      refine (HAW.out _).mono ?_
      rintro e w1 ⟨rfl, hx1⟩
      have c1 := hx1.at HB.out
      have HG1 := Lib.hid (hx1.row HG.out)
      have HX1 := Lib.hid (HX0.out.trans hx1)
      clear hx1
      go_wp2_with (with_reducible refine wpList_load_row rfl 25 (.tmp 2) rfl (w.heap.size) rfl 25 #[.int .i64 k, .int .i64 t, .int .u64 (a : Int), .slice A n c] (0, 0) _ HG1.out Try.underlying25 rfl tx_in14 ?_)
      refine (HEA.out w1 HX1.out).mono ?_
      rintro e w2 ⟨hx2, Bx, nx, cx, rfl, hn2, hc2, hr2⟩
      have HG2 := Lib.hid (hx2.row HG1.out)
      have HX2 := Lib.hid (HX1.out.trans hx2)
      have HU2 := Lib.hid (HDU.out Bx nx cx w2 hn2 hr2 hc2)
      clear hx2 hn2 hr2 c1 HDU
      go_wp2_with fail
      refine HU2.out.mono ?_
      rintro e w3 ⟨hx3, B4, n4, c4, rfl, hn4, hc4, hr4⟩
      have q3 := hx3.alloc (.cells #[.int .i64 k3, .int .i64 t3, .int .u64 (a3 : Int), .slice B4 n4 c4] 30)
      have g1 := q3.row HG2.out
      have g3 := heap_alloc_new w3 (.cells #[.int .i64 k3, .int .i64 t3, .int .u64 (a3 : Int), .slice B4 n4 c4] 30)
      have HX3 := Lib.hid (HX2.out.trans q3)
      have HSU := Lib.hid (HSO.out _ HX3.out n4 c4 m3 B4 k3 t3 a3 hn4 (hr4.ext ((Ext.refl w3).alloc _)) (by omega))
      rw [HTRT.out] at HSU
      have p0 : World.cell? (w3.alloc (.cells #[.int .i64 k3, .int .i64 t3, .int .u64 (a3 : Int), .slice B4 n4 c4] 30)) ⟨w.heap.size, 0, none⟩ = some (.int .i64 k) := cell_of_row _ _ 0 _ _ _ g1
      have p1 : World.cell? (w3.alloc (.cells #[.int .i64 k3, .int .i64 t3, .int .u64 (a3 : Int), .slice B4 n4 c4] 30)) ⟨w.heap.size, 1, none⟩ = some (.int .i64 t) := cell_of_row _ _ 1 _ _ _ g1
      have p2 : World.cell? (w3.alloc (.cells #[.int .i64 k3, .int .i64 t3, .int .u64 (a3 : Int), .slice B4 n4 c4] 30)) ⟨w.heap.size, 2, none⟩ = some (.int .u64 (a : Int)) := cell_of_row _ _ 2 _ _ _ g1
      have p3 : World.cell? (w3.alloc (.cells #[.int .i64 k3, .int .i64 t3, .int .u64 (a3 : Int), .slice B4 n4 c4] 30)) ⟨w.heap.size, 3, none⟩ = some (.slice A n c) := cell_of_row _ _ 3 _ _ _ g1
      have q0 : World.cell? (w3.alloc (.cells #[.int .i64 k3, .int .i64 t3, .int .u64 (a3 : Int), .slice B4 n4 c4] 30)) ⟨w3.heap.size, 0, none⟩ = some (.int .i64 k3) := cell_of_row _ _ 0 _ _ _ g3
      have q1 : World.cell? (w3.alloc (.cells #[.int .i64 k3, .int .i64 t3, .int .u64 (a3 : Int), .slice B4 n4 c4] 30)) ⟨w3.heap.size, 1, none⟩ = some (.int .i64 t3) := cell_of_row _ _ 1 _ _ _ g3
      have q2 : World.cell? (w3.alloc (.cells #[.int .i64 k3, .int .i64 t3, .int .u64 (a3 : Int), .slice B4 n4 c4] 30)) ⟨w3.heap.size, 2, none⟩ = some (.int .u64 (a3 : Int)) := cell_of_row _ _ 2 _ _ _ g3
      have q3 : World.cell? (w3.alloc (.cells #[.int .i64 k3, .int .i64 t3, .int .u64 (a3 : Int), .slice B4 n4 c4] 30)) ⟨w3.heap.size, 3, none⟩ = some (.slice B4 n4 c4) := cell_of_row _ _ 3 _ _ _ g3
      clear hx3 hn4 hr4 q3 g1 g3
      go_wp2_with fail
      refine HSU.out.mono ?_
      rintro e w5 ⟨rfl, hx5⟩
      have HX5 := Lib.hid (HX3.out.trans hx5)
      clear hx5 p0 p1 p2 p3 q0 q1 q2 q3
      go_wp2_with fail
      refine (HDW.out w5 HX5.out).mono ?_
      rintro e w6 ⟨hx6, B6, n6, c6, rfl, hn6, hc6, hr6⟩
      have q6 := hx6.alloc (.cells #[.int .i64 k2, .int .i64 t2, .int .u64 (a2 : Int), .slice B6 n6 c6] 30)
      have HX6 := Lib.hid (HX5.out.trans q6)
      have HG6 := Lib.hid (heap_alloc_new w6 (.cells #[.int .i64 k2, .int .i64 t2, .int .u64 (a2 : Int), .slice B6 n6 c6] 30))
      have HE6 := Lib.hid (HEW.out n6 c6 B6 _ hn6 (hr6.ext ((Ext.refl w6).alloc (.cells #[.int .i64 k2, .int .i64 t2, .int .u64 (a2 : Int), .slice B6 n6 c6] 30))) hc6)
      clear hx6 hn6 hr6 q6 hc6
      go_wp2_with (with_reducible refine wpList_load_row rfl 30 (.tmp 9) rfl (w6.heap.size) rfl 30 #[.int .i64 k2, .int .i64 t2, .int .u64 (a2 : Int), .slice B6 n6 c6] (0, 0) _ HG6.out Try.underlying30 rfl tx_in14x ?_)
      refine HE6.out.mono ?_
      rintro e w7 ⟨hx7, By, ny, cy, rfl, hn7, hc7, hr7⟩
      have HX7 := Lib.hid (HX6.out.trans hx7)
      clear hx7 hc7
      clear hn7 hr7
      go_wp2
      go_ret
      exact ⟨rfl, HX7.out⟩
  · clear HTR
    by_cases hz : dn = 0
    · obtain ⟨rfl, rfl⟩ := HAG.out hz
      subst hz
      clear HAG
      go_enter Try.func4, Try.ntmps4
      go_wp2_with fail
      refine (HAW.out _).mono ?_
      rintro e w1 ⟨rfl, hx1⟩
      have c1 := hx1.at HB.out
      have HG1 := Lib.hid (hx1.row HG.out)
      have HX1 := Lib.hid (HX0.out.trans hx1)
      clear hx1
      go_wp2_with (with_reducible refine wpList_load_row rfl 25 (.tmp 2) rfl (w.heap.size) rfl 25 #[.int .i64 k, .int .i64 t, .int .u64 (a : Int), .slice A n c] (0, 0) _ HG1.out Try.underlying25 rfl tx_in14 ?_)
      refine (HEA.out w1 HX1.out).mono ?_
      rintro e w2 ⟨hx2, Bx, nx, cx, rfl, hn2, hc2, hr2⟩
      have HG2 := Lib.hid (hx2.row HG1.out)
      have HX2 := Lib.hid (HX1.out.trans hx2)
      have HU2 := Lib.hid (HDU.out Bx nx cx w2 hn2 hr2 hc2)
      clear hx2 hn2 hr2 c1 HDU
      go_wp2_with fail
      refine HU2.out.mono ?_
      rintro e w3 ⟨hx3, B4, n4, c4, rfl, hn4, hc4, hr4⟩
      have q3 := hx3.alloc (.cells #[.int .i64 k3, .int .i64 t3, .int .u64 (a3 : Int), .slice B4 n4 c4] 30)
      have HX5 := Lib.hid (HX2.out.trans q3)
      clear hx3 hn4 hr4 q3
      go_wp2_with fail
      refine (HDW.out _ HX5.out).mono ?_
      rintro e w6 ⟨hx6, B6, n6, c6, rfl, hn6, hc6, hr6⟩
      have q6 := hx6.alloc (.cells #[.int .i64 k2, .int .i64 t2, .int .u64 (a2 : Int), .slice B6 n6 c6] 30)
      have HX6 := Lib.hid (HX5.out.trans q6)
      have HG6 := Lib.hid (heap_alloc_new w6 (.cells #[.int .i64 k2, .int .i64 t2, .int .u64 (a2 : Int), .slice B6 n6 c6] 30))
      have HE6 := Lib.hid (HEW.out n6 c6 B6 _ hn6 (hr6.ext ((Ext.refl w6).alloc (.cells #[.int .i64 k2, .int .i64 t2, .int .u64 (a2 : Int), .slice B6 n6 c6] 30))) hc6)
      clear hx6 hn6 hr6 q6 hc6
      go_wp2_with (with_reducible refine wpList_load_row rfl 30 (.tmp 9) rfl (w6.heap.size) rfl 30 #[.int .i64 k2, .int .i64 t2, .int .u64 (a2 : Int), .slice B6 n6 c6] (0, 0) _ HG6.out Try.underlying30 rfl tx_in14x ?_)
      refine HE6.out.mono ?_
      rintro e w7 ⟨hx7, By, ny, cy, rfl, hn7, hc7, hr7⟩
      have HX7 := Lib.hid (HX6.out.trans hx7)
      clear hx7 hc7
      have HS8 := Lib.hid (HSB.out By ny cy w7 HX7.out hn7 hr7)
      clear hn7 hr7
      go_wp2_with fail
      refine HS8.out.mono ?_
      rintro e w8 ⟨rfl, hx8⟩
      have HX8 := Lib.hid (HX7.out.trans hx8)
      clear hx8
      go_wp2
      go_ret
      exact ⟨rfl, HX8.out⟩
    · have dz : ((dn : Int) != 0) = true := by simp; omega
      have dz' : decide (dn = 0) = false := decide_eq_false hz
      clear HAG HSB hz
      go_enter Try.func4, Try.ntmps4
      go_wp2_with fail
      refine (HAW.out _).mono ?_
      rintro e w1 ⟨rfl, hx1⟩
      have c1 := hx1.at HB.out
      have HG1 := Lib.hid (hx1.row HG.out)
      have HX1 := Lib.hid (HX0.out.trans hx1)
      clear hx1
      go_wp2_with (with_reducible refine wpList_load_row rfl 25 (.tmp 2) rfl (w.heap.size) rfl 25 #[.int .i64 k, .int .i64 t, .int .u64 (a : Int), .slice A n c] (0, 0) _ HG1.out Try.underlying25 rfl tx_in14 ?_)
      refine (HEA.out w1 HX1.out).mono ?_
      rintro e w2 ⟨hx2, Bx, nx, cx, rfl, hn2, hc2, hr2⟩
      have HG2 := Lib.hid (hx2.row HG1.out)
      have HX2 := Lib.hid (HX1.out.trans hx2)
      have HU2 := Lib.hid (HDU.out Bx nx cx w2 hn2 hr2 hc2)
      clear hx2 hn2 hr2 c1 HDU
      go_wp2_with fail
      refine HU2.out.mono ?_
      rintro e w3 ⟨hx3, B4, n4, c4, rfl, hn4, hc4, hr4⟩
      have q3 := hx3.alloc (.cells #[.int .i64 k3, .int .i64 t3, .int .u64 (a3 : Int), .slice B4 n4 c4] 30)
      have HX5 := Lib.hid (HX2.out.trans q3)
      clear hx3 hn4 hr4 q3
      go_wp2_with fail
      refine (HDW.out _ HX5.out).mono ?_
      rintro e w6 ⟨hx6, B6, n6, c6, rfl, hn6, hc6, hr6⟩
      have q6 := hx6.alloc (.cells #[.int .i64 k2, .int .i64 t2, .int .u64 (a2 : Int), .slice B6 n6 c6] 30)
      have HX6 := Lib.hid (HX5.out.trans q6)
      have HG6 := Lib.hid (heap_alloc_new w6 (.cells #[.int .i64 k2, .int .i64 t2, .int .u64 (a2 : Int), .slice B6 n6 c6] 30))
      have HE6 := Lib.hid (HEW.out n6 c6 B6 _ hn6 (hr6.ext ((Ext.refl w6).alloc (.cells #[.int .i64 k2, .int .i64 t2, .int .u64 (a2 : Int), .slice B6 n6 c6] 30))) hc6)
      clear hx6 hn6 hr6 q6 hc6
      go_wp2_with (with_reducible refine wpList_load_row rfl 30 (.tmp 9) rfl (w6.heap.size) rfl 30 #[.int .i64 k2, .int .i64 t2, .int .u64 (a2 : Int), .slice B6 n6 c6] (0, 0) _ HG6.out Try.underlying30 rfl tx_in14x ?_)
      refine HE6.out.mono ?_
      rintro e w7 ⟨hx7, By, ny, cy, rfl, hn7, hc7, hr7⟩
      have HX7 := Lib.hid (HX6.out.trans hx7)
      clear hx7 hc7
      clear hn7 hr7
      go_wp2
      go_ret
      exact ⟨rfl, HX7.out⟩
end Go.Proofs.Ytnfgokbopndmgaa

/-
  The code's own valid: which orders can be. Conditions: none.
-/
namespace Go.Proofs.Ytnfgokbopndmgaa
open Go.RowKit
open Pol (co Sm)

set_option maxHeartbeats 1600000 in
theorem tx_valid (k t : Int) (a n c : Nat) (A : Option Addr) (w : World) : Calls Try.prog 28 #[.agg #[.int .i64 k, .int .i64 t, .int .u64 (a : Int), .slice A n c]] w (Tells (.bool (decide (RightN k t a n))) w) := by
  by_cases h0 : 16 < n
  · have d0 : decide ((n : Int) > 16) = true := decide_eq_true (by omega)
    have d0' : decide (16 < (n : Int)) = true := decide_eq_true (by omega)
    rw [show decide (RightN k t a n) = false from decide_eq_false (by unfold RightN; omega)]
    go_enter Try.func28, Try.ntmps28
    go_wp2
    go_ret
    exact ⟨rfl, (Ext.refl _).alloc _⟩
  have d0 : decide ((n : Int) > 16) = false := decide_eq_false (by omega)
  have d0' : decide (16 < (n : Int)) = false := decide_eq_false (by omega)
  by_cases h1 : k = 1
  · by_cases h2 : 0 ≤ t
    · have d2 : decide (t ≥ 0) = true := decide_eq_true (by omega)
      have d2' : decide (0 ≤ t) = true := decide_eq_true (by omega)
      by_cases h3 : t < 6
      · have d3 : decide (t < 6) = true := decide_eq_true h3
        rw [show decide (RightN k t a n) = true from decide_eq_true (by unfold RightN; omega)]
        subst h1
        go_enter Try.func28, Try.ntmps28
        go_wp2
        go_ret
        exact ⟨rfl, (Ext.refl _).alloc _⟩
      · have d3 : decide (t < 6) = false := decide_eq_false h3
        rw [show decide (RightN k t a n) = false from decide_eq_false (by unfold RightN; omega)]
        subst h1
        go_enter Try.func28, Try.ntmps28
        go_wp2
        go_ret
        exact ⟨rfl, (Ext.refl _).alloc _⟩
    · have d2 : decide (t ≥ 0) = false := decide_eq_false (by omega)
      have d2' : decide (0 ≤ t) = false := decide_eq_false (by omega)
      rw [show decide (RightN k t a n) = false from decide_eq_false (by unfold RightN; omega)]
      subst h1
      go_enter Try.func28, Try.ntmps28
      go_wp2
      go_ret
      exact ⟨rfl, (Ext.refl _).alloc _⟩
  have d1 : (k == 1) = false := by simp; omega
  have d1' : decide (k = 1) = false := decide_eq_false h1
  by_cases h4 : k = 2
  · by_cases h5 : t = 0
    · by_cases h6 : a = 0
      · have HD := Lib.hid (show decide (RightN k t a n) = true from decide_eq_true (by unfold RightN; omega))
        rw [HD.out]
        subst h4 h5 h6
        go_enter Try.func28, Try.ntmps28
        go_wp2
        go_ret
        exact ⟨rfl, (Ext.refl _).alloc _⟩
      · have d6 : ((a : Int) == 0) = false := by simp; omega
        have d6' : decide ((a : Int) = 0) = false := decide_eq_false (by omega)
        have d6'' : decide (a = 0) = false := decide_eq_false h6
        have HD := Lib.hid (show decide (RightN k t a n) = false from decide_eq_false (by unfold RightN; omega))
        rw [HD.out]
        subst h4 h5
        go_enter Try.func28, Try.ntmps28
        go_wp2
        go_ret
        exact ⟨rfl, (Ext.refl _).alloc _⟩
    · have d5 : (t == 0) = false := by simp; omega
      have d5' : decide (t = 0) = false := decide_eq_false h5
      have HD := Lib.hid (show decide (RightN k t a n) = false from decide_eq_false (by unfold RightN; omega))
      rw [HD.out]
      subst h4
      go_enter Try.func28, Try.ntmps28
      go_wp2
      go_ret
      exact ⟨rfl, (Ext.refl _).alloc _⟩
  · have d4 : (k == 2) = false := by simp; omega
    have d4' : decide (k = 2) = false := decide_eq_false h4
    rw [show decide (RightN k t a n) = false from decide_eq_false (by unfold RightN; omega)]
    go_enter Try.func28, Try.ntmps28
    go_wp2
    go_ret
    exact ⟨rfl, (Ext.refl _).alloc _⟩
end Go.Proofs.Ytnfgokbopndmgaa

/-
  What Number and Text of layer 8 lay behind bytes. Conditions: no more than 2^20 bytes each.
-/
namespace Go.Proofs.Ytnfgokbopndmgaa
open Go.RowKit
open Pol (co Sm)

set_option maxHeartbeats 1600000 in
set_option maxRecDepth 100000 in
theorem cd_layN (base : Nat) (v : Value) (l : List Nat) (n : Nat) (w : World) (hm : Mine w base v l) (hs : Sm l) (hl : l.length ≤ 1048576) (hn : n < 18446744073709551616) (hb : base ≤ w.heap.size) :
    Calls Try.prog 29 #[v, .int .u64 (n : Int)] w (Lays base v (l ++ vn n) w) := by
  have HSM := Lib.hid (sm_app hs (vn_sm n))
  have HTEN := Lib.hid (vn_ten hn)
  have hn10 : n < 128 ^ (9 + 1) := by omega
  obtain ⟨V, hV⟩ : ∃ V, l ++ vn n = V := ⟨_, rfl⟩
  have HVL := Lib.hid (show V.length ≤ 1048586 by rw [← hV, List.length_append]; have := HTEN.out; omega)
  rw [hV] at HSM
  rw [hV]
  have HV := Lib.hid hV
  clear hV
  obtain ⟨B0, c0, rfl, hc0, _⟩ := hm.slice hs
  have HM0 := Lib.hid hm
  have HB := Lib.hid hb
  obtain ⟨l0, hl0⟩ : ∃ l0, l.length = l0 := ⟨_, rfl⟩
  have HL0 := Lib.hid hl0
  obtain ⟨v0, hv0⟩ : ∃ v0, Value.slice B0 l.length c0 = v0 := ⟨_, rfl⟩
  rw [hv0] at HM0 ⊢
  rw [hl0] at hv0 hc0 hl
  have HV0 := Lib.hid hv0
  rw [← hv0]
  clear hm hb hl0 hv0
  go_enter Try.func29, Try.ntmps29
  go_wp2
  go_loopg [0, 1] 9 (fun g s0 s1 wx => ∃ (m : Nat) (acc : List Nat) (B : Option Addr) (c : Nat), m < 128 ^ (g + 1) ∧ s1 = .int .u64 (m : Int) ∧ m < 18446744073709551616 ∧ acc ++ vn m = V ∧ s0 = .slice B acc.length c ∧ Mine wx base (.slice B acc.length c) acc ∧ LayS w wx v0 (.slice B acc.length c))
  case atStart => exact ⟨n, l, B0, c0, hn10, rfl, hn, HV.out, by rw [HL0.out], by rw [HL0.out, HV0.out]; exact HM0.out, by rw [HL0.out, HV0.out]; exact LayS.refl _ _⟩
  case round =>
    obtain ⟨m, acc, B, c, hmg, rfl, hm64, hac, rfl, hmi, hx⟩ := hrel
    have HM := Lib.hid hmi
    have HX := Lib.hid hx
    have hlen : acc.length ≤ 1048586 := by have := HVL.out; rw [← hac, List.length_append] at this; omega
    have hsz : w.heap.size ≤ wr.heap.size := hx.1.size
    have HSZ := Lib.hid (Nat.le_trans HB.out hsz)
    obtain ⟨la, hla⟩ : ∃ la, acc.length = la := ⟨_, rfl⟩
    have HLA := Lib.hid hla
    rw [hla] at HM HX hlen ⊢
    clear hmi hx hla hsz
    by_cases h128 : m < 128
    · have d1 : decide (128 ≤ (m : Int)) = false := decide_eq_false (by omega)
      have e1 : IntKind.u8.wrap (m : Int) = (m : Int) := IntWalk.u8_in _ (by omega)
      have HAV := Lib.hid (show acc ++ [m] = V from by rw [← hac, vn_lt h128])
      have hm256 : m < 256 := by omega
      clear hac hmg
      go_wp2_with (at_builtin; refine wpList_append_rd rfl (.tmp 15) (.tmp 18) rfl base _ acc [m] rfl (mine_ext HM.out ((Ext.refl _).alloc _)) (some ⟨wr.heap.size, 0, none⟩) 1 1 rfl rfl (rd_one wr m hm256) (by rw [HLA.out]; simp; omega) (by simp; have := HSZ.out; omega) ?_; intro v' w3 hown' hg' hat'; rw [HAV.out] at hown'; have hx3 := (HX.out.alloc (.cells #[.int .u8 (m : Int)] 5)).step hg' hat'; have HO := Lib.hid (hx3.lays hown'); clear hown' hg' hat' hx3)
      go_ret
      rw [HV0.out]
      exact HO.out
    · cases gk with
      | zero => omega
      | succ g =>
        have d1 : decide (128 ≤ (m : Int)) = true := decide_eq_true (by omega)
        obtain ⟨q, hq⟩ : ∃ q, m % 256 = q := ⟨_, rfl⟩
        obtain ⟨y, hy⟩ : ∃ y, q % 128 + 128 = y := ⟨_, rfl⟩
        obtain ⟨m2, hm2⟩ : ∃ m2, m / 128 = m2 := ⟨_, rfl⟩
        have e1 : IntKind.u8.wrap (m : Int) = (q : Int) := by rw [IntKind.wrap_u8]; omega
        have e2 : bits .or .u8 (q : Int) 128 = (y : Int) := by rw [or8_128 q (by omega), hy]
        have e5 : (m : Int) / 128 = (m2 : Int) := by omega
        have hy256 : y < 256 := by omega
        have HAV := Lib.hid (show (acc ++ [y]) ++ vn m2 = V from by
          rw [← hac, vn_ge h128, List.append_assoc, hm2, show m % 128 + 128 = y from by omega]; rfl)
        have HS9 := Lib.hid (show Sm (acc ++ [y]) from (sm_split (b := vn m2) (by rw [HAV.out]; exact HSM.out)).1)
        have HL9 := Lib.hid (show (acc ++ [y]).length = la + 1 by rw [List.length_append, HLA.out]; rfl)
        have hm2b : m2 < 128 ^ (g + 1) := by rw [← hm2]; rw [Nat.pow_succ] at hmg; omega
        have hm2c : m2 < 18446744073709551616 := by omega
        clear hac hq hy hm2 hmg
        go_wp2_with (at_builtin; refine wpList_append_rd rfl (.tmp 7) (.tmp 11) rfl base _ acc [y] rfl (mine_ext HM.out ((Ext.refl _).alloc _)) (some ⟨wr.heap.size, 0, none⟩) 1 1 rfl rfl (rd_one wr y hy256) (by rw [HLA.out]; simp; omega) (by simp; have := HSZ.out; omega) ?_; intro v' w3 hown' hg' hat'; have hx3 := (HX.out.alloc (.cells #[.int .u8 (y : Int)] 5)).step hg' hat'; obtain ⟨Bv, cv, ev', hcv, _⟩ := hown'.slice HS9.out; rw [HL9.out] at ev'; subst ev'; have HO := Lib.hid hown'; have HX3 := Lib.hid hx3; clear hown' hg' hat' hx3)
        go_roundg g
        case measure => omega
        case rel => exact ⟨m2, acc ++ [y], Bv, cv, hm2b, rfl, hm2c, HAV.out, by rw [HL9.out], by rw [HL9.out]; exact HO.out, by rw [HL9.out]; exact HX3.out⟩
set_option maxHeartbeats 1600000 in
theorem cd_layT (base : Nat) (v : Value) (l t : List Nat) (A : Option Addr) (ca : Nat) (w : World) (hm : Mine w base v l) (hs : Sm l) (hr : Rd w A t) (hl : l.length ≤ 1048576) (ht : t.length ≤ 1048576) (hb : base ≤ w.heap.size) :
    Calls Try.prog 30 #[v, .slice A t.length ca] w (Lays base v (l ++ vt t) w) := by
  have HN := Lib.hid (cd_layN w.heap.size (.slice none 0 0) [] t.length w (Mine.nil _ _) Sm.nil (by decide) (by omega) (Nat.le_refl _))
  have HR := Lib.hid hr
  have HM := Lib.hid hm
  have HB := Lib.hid hb
  have HS := Lib.hid (vt_sm hr.1)
  have HSN := Lib.hid (vn_sm t.length)
  have HTEN := Lib.hid (vn_ten (n := t.length) (by omega))
  have HVT := Lib.hid (show vn t.length ++ t = vt t from rfl)
  have HVL := Lib.hid (show (vt t).length ≤ 1048586 by rw [← HVT.out, List.length_append]; have := HTEN.out; omega)
  rw [List.nil_append] at HN
  obtain ⟨B0, c0, ev0, hc0, _⟩ := hm.slice hs
  have HV0 := Lib.hid ev0
  rw [ev0]
  clear hr hm hb
  generalize hn : t.length = n at *
  have HL := Lib.hid hn
  clear hn
  have e1 : IntKind.u64.wrap (n : Int) = (n : Int) := by rw [IntKind.wrap_u64]; omega
  generalize vn n = V at *
  obtain ⟨V2, hV2⟩ : ∃ V2, vt t = V2 := ⟨_, rfl⟩
  rw [hV2] at HS HVT HVL ⊢
  clear hV2 ev0
  go_enter Try.func30, Try.ntmps30
  go_wp2_with fail
  refine HN.out.mono ?_
  rintro e w1 ⟨v1, rfl, hm1, hg1, _⟩
  have HX1 := Lib.hid ((Ext.refl w).more hg1 (fun r e => by simp [Value.ownBlock] at e))
  obtain ⟨B, c, ev, hc, _⟩ := hm1.slice HSN.out
  subst ev
  have HM1 := Lib.hid hm1
  clear hm1 hg1
  obtain ⟨lv, hlv⟩ : ∃ lv, V.length = lv := ⟨_, rfl⟩
  have HLV := Lib.hid hlv
  rw [hlv] at HM1 hc HTEN ⊢
  clear hlv
  go_wp2_with (at_builtin; first | (refine wpList_append_rd rfl (.tmp 9) (.tmp 10) rfl w.heap.size _ V t rfl HM1.out A n ca rfl HL.out (HR.out.ext HX1.out) (by rw [HLV.out, HL.out]; have := HTEN.out; omega) (by have := HX1.out.size; omega) ?_; intro v2 w3 hown' hg' hat'; rw [HVT.out] at hown'; have hx3 := HX1.out.more hg' (fun r e => (HM1.out.block r e).1); obtain ⟨Bv, cv, ev', hcv, hrv⟩ := hown'.slice HS.out; subst ev'; have HR3 := Lib.hid hrv; have HX3 := Lib.hid hx3; clear hown' hg' hat' hx3 hrv) | (refine wpList_append_rd rfl (.tmp 12) (.tmp 13) rfl base _ l V2 rfl (HV0.out ▸ mine_ext HM.out HX3.out) Bv V2.length cv rfl rfl HR3.out (by have := HVL.out; omega) (by have := HX3.out.size; have := HB.out; omega) ?_; intro v4 w5 hown5 hg5 hat5; have HO := Lib.hid ((((LayS.refl w (.slice B0 l.length c0)).ext HX3.out).step hg5 hat5).lays hown5); clear hown5 hg5 hat5))
  go_ret
  exact HO.out

end Go.Proofs.Ytnfgokbopndmgaa

/-
  The code's own Encode of layer 14. Conditions: no more than 2^16 bytes.
-/
namespace Go.Proofs.Ytnfgokbopndmgaa
open Go.RowKit
open Pol (co Sm)

set_option maxHeartbeats 3200000 in
set_option maxRecDepth 100000 in
theorem tx_encode (k t : Int) (a n c : Nat) (m : List Nat) (A : Option Addr) (w : World) (hn : m.length = n) (hr : Rd w A m) (hl : n ≤ 65536) (ha : a < 18446744073709551616) :
    Calls Try.prog 10 #[.agg #[.int .i64 k, .int .i64 t, .int .u64 (a : Int), .slice A n c]] w (EncR ⟨k, t, a, m⟩ w) := by
  have HV := Lib.hid (fun u => tx_valid k t a n c A u)
  rw [right_is hn] at HV
  have HX0 := Lib.hid ((Ext.refl w).alloc (.cells #[.int .i64 k, .int .i64 t, .int .u64 (a : Int), .slice A n c] 30))
  have HG := Lib.hid (heap_alloc_new w (.cells #[.int .i64 k, .int .i64 t, .int .u64 (a : Int), .slice A n c] 30))
  by_cases ho : Od.right ⟨k, t, a, m⟩
  · rw [decide_eq_true ho] at HV
    obtain ⟨b1, b2, b3, b4, _⟩ := Od.right_bounds ho
    dsimp only at b1 b2 b3 b4
    have HE := Lib.hid (show Od.bytes ⟨k, t, a, m⟩ = [] ++ vn k.toNat ++ vn t.toNat ++ vn a ++ vt m ∧ Od.code ⟨k, t, a, m⟩ = 0 from by
      unfold Od.bytes Od.code Od.enc
      rw [if_pos ho, if_pos ho]
      exact ⟨rfl, rfl⟩)
    have HSM := Lib.hid (Od.bytes_sm (o := ⟨k, t, a, m⟩) hr.1)
    obtain ⟨kk, rfl⟩ : ∃ q : Nat, (q : Int) = k := ⟨k.toNat, by omega⟩
    obtain ⟨tt, rfl⟩ : ∃ q : Nat, (q : Int) = t := ⟨t.toNat, by omega⟩
    rw [Int.toNat_natCast, Int.toNat_natCast] at HE
    have w8 : IntKind.u64.wrap (kk : Int) = (kk : Int) := by rw [IntKind.wrap_u64]; omega
    have w8' : IntKind.u64.wrap (tt : Int) = (tt : Int) := by rw [IntKind.wrap_u64]; omega
    obtain ⟨base, hbase⟩ : ∃ base, (w.alloc (.cells #[.int .i64 (kk : Int), .int .i64 (tt : Int), .int .u64 (a : Int), .slice A n c] 30)).heap.size = base := ⟨_, rfl⟩
    have HBS := Lib.hid hbase
    have S1 : Sm ([] ++ vn kk) := sm_app Sm.nil (vn_sm _)
    have S2 : Sm ([] ++ vn kk ++ vn tt) := sm_app S1 (vn_sm _)
    have S3 : Sm ([] ++ vn kk ++ vn tt ++ vn a) := sm_app S2 (vn_sm _)
    have T1 := vn_ten (show kk < 18446744073709551616 by omega)
    have T2 := vn_ten (show tt < 18446744073709551616 by omega)
    have T3 := vn_ten ha
    have L1 := Lib.hid (fun u (hb : base ≤ u.heap.size) => cd_layN base (.slice none 0 0) [] kk u (Mine.nil _ _) Sm.nil (by decide) (by omega) hb)
    have L2 := Lib.hid (fun u v (hb : base ≤ u.heap.size) (hm : Mine u base v ([] ++ vn kk)) => cd_layN base v _ tt u hm S1 (by simp; omega) (by omega) hb)
    have L3 := Lib.hid (fun u v (hb : base ≤ u.heap.size) (hm : Mine u base v ([] ++ vn kk ++ vn tt)) => cd_layN base v _ a u hm S2 (by simp; omega) ha hb)
    have L4 := Lib.hid (fun u v (hb : base ≤ u.heap.size) (hu : Ext w u) (hm : Mine u base v ([] ++ vn kk ++ vn tt ++ vn a)) => show Calls Try.prog 30 #[v, .slice A n c] u (Lays base v ([] ++ vn kk ++ vn tt ++ vn a ++ vt m) u) from by
      have h := cd_layT base v _ m A c u hm S3 (hr.ext hu) (by simp; omega) (by omega) hb
      rwa [hn] at h)
    unfold EncR
    rw [HE.out.1] at HSM ⊢
    rw [HE.out.2]
    clear hr ho S1 S2 S3 T1 T2 T3 b1 b2 b3 b4 HE hbase
    generalize vn kk = V1 at *
    generalize vn tt = V2 at *
    generalize vn a = V3 at *
    generalize vt m = V4 at *
    go_enter Try.func10, Try.ntmps10
    go_wp2_with fail
    refine (HV.out _).mono ?_
    rintro e w1 ⟨rfl, hx1⟩
    have g1 := hx1.row HG.out
    have q0 : w1.cell? ⟨w.heap.size, 0, none⟩ = some (.int .i64 (kk : Int)) := cell_of_row _ _ 0 _ _ _ g1
    have HX1 := Lib.hid hx1
    clear hx1 g1
    go_wp2_with fail
    refine (L1.out w1 (by rw [← HBS.out]; exact HX1.out.size)).mono ?_
    rintro e w2 ⟨v2, rfl, hm2, hg2, _⟩
    have hx2 := HX1.out.more hg2 (fun r e => by cases e)
    have g2 := hx2.row HG.out
    have q1 : w2.cell? ⟨w.heap.size, 1, none⟩ = some (.int .i64 (tt : Int)) := cell_of_row _ _ 1 _ _ _ g2
    have HX2 := Lib.hid hx2
    have HM2 := Lib.hid hm2
    clear hx2 g2 hm2 hg2 q0
    go_wp2_with fail
    refine (L2.out w2 v2 (by rw [← HBS.out]; exact HX2.out.size) HM2.out).mono ?_
    rintro e w3 ⟨v3, rfl, hm3, hg3, _⟩
    have hx3 := HX2.out.more hg3 (fun r e => by rw [HBS.out]; exact (HM2.out.block r e).1)
    have g3 := hx3.row HG.out
    have q2 : w3.cell? ⟨w.heap.size, 2, none⟩ = some (.int .u64 (a : Int)) := cell_of_row _ _ 2 _ _ _ g3
    have HX3 := Lib.hid hx3
    have HM3 := Lib.hid hm3
    clear hx3 g3 hm3 hg3 q1
    go_wp2_with fail
    refine (L3.out w3 v3 (by rw [← HBS.out]; exact HX3.out.size) HM3.out).mono ?_
    rintro e w4 ⟨v4, rfl, hm4, hg4, _⟩
    have hx4 := HX3.out.more hg4 (fun r e => by rw [HBS.out]; exact (HM3.out.block r e).1)
    have g4 := hx4.row HG.out
    have q3 : w4.cell? ⟨w.heap.size, 3, none⟩ = some (.slice A n c) := cell_of_row _ _ 3 _ _ _ g4
    have HX4 := Lib.hid hx4
    have HM4 := Lib.hid hm4
    clear hx4 g4 hm4 hg4 q2
    go_wp2_with fail
    refine (L4.out w4 v4 (by rw [← HBS.out]; exact HX4.out.size) (HX0.out.trans HX4.out) HM4.out).mono ?_
    rintro e w5 ⟨v5, rfl, hm5, hg5, _⟩
    have HX5 := Lib.hid (HX4.out.more hg5 (fun r e => by rw [HBS.out]; exact (HM4.out.block r e).1))
    obtain ⟨B5, c5, rfl, hc5, hr5⟩ := hm5.slice HSM.out
    obtain ⟨n5, hn5⟩ : ∃ q, ([] ++ V1 ++ V2 ++ V3 ++ V4).length = q := ⟨_, rfl⟩
    rw [hn5] at hc5 ⊢
    have HN5 := Lib.hid hn5
    have HR5 := Lib.hid hr5
    have HC5 := Lib.hid hc5
    clear hm5 hg5 hr5 hc5 q3 hn5
    go_wp2
    go_ret2
    exact ⟨HX0.out.trans HX5.out, _, _, _, rfl, HN5.out, HC5.out, HR5.out⟩
  · rw [decide_eq_false ho] at HV
    have HO := Lib.hid ho
    clear hr ho
    go_enter Try.func10, Try.ntmps10
    go_wp2_with fail
    refine (HV.out _).mono ?_
    rintro e w1 ⟨rfl, hx1⟩
    have HX1 := Lib.hid (HX0.out.trans hx1)
    clear hx1
    go_wp2
    go_ret2
    exact EncR.no HO.out HX1.out
end Go.Proofs.Ytnfgokbopndmgaa

/-
  What a reader of layer 8 is in memory, and what its small functions do: running, fail, limit. Conditions: none.
-/
namespace Go.Proofs.Ytnfgokbopndmgaa
open Go.RowKit
open Pol (co Sm)

/-- A decoding that goes on: l is left. -/
def Dc (lo hi db rb : Nat) (w : World) (l : List Nat) : Prop :=
  ∃ A c, w.heap[db]? = some (.cells #[.pointer (some ⟨rb, 0, none⟩), .slice A l.length c, .int .i64 0] 89 (0, 0)) ∧ Rd w A l ∧ l.length ≤ c ∧ (∀ b o, A = some ⟨b, o, none⟩ → 0 < l.length → Btw lo hi b ∧ b ≠ db)
/-- One that has ended with error n. -/
def Fl (db rb : Nat) (w : World) (n : Nat) : Prop :=
  w.heap[db]? = some (.cells #[.pointer (some ⟨rb, 0, none⟩), .slice none 0 0, .int .i64 (n : Int)] 89 (0, 0))
/-- The panic that ends it. -/
def En (db : Nat) : List PanicEntry := [{ v := .iface 95 (.agg #[.pointer (some ⟨db, 0, none⟩)]), recovered := false }]
/-- A reader. -/
def Rp (rb db : Nat) (w : World) : Prop := w.heap[rb]? = some (.cells #[.pointer (some ⟨db, 0, none⟩)] 91 (0, 0))
/-- Where the reading's own variables lie: behind the decoding its variable, behind that the reader; first of all the error that is told. -/
def Fr (lo hi rb db : Nat) (w : World) : Prop :=
  rb + 1 = hi ∧ db + 2 = rb ∧ lo < db ∧ w.heap[db + 1]? = some (.cells #[.pointer (some ⟨db, 0, none⟩)] 87 (0, 0)) ∧ w.heap[lo]? = some (.cells #[.int .i64 0] 27 (0, 0))
/-- What a call at a decoding does. -/
def DReads {α : Type} (lo hi db rb : Nat) (V : Value → World → α → Prop) (r : Rs α) (w : World) (e : Ending) (w' : World) : Prop :=
  Only (fun k => k = db) w w' ∧ match r with
    | .ok a rest => ∃ v, e = .returned v ∧ V v w' a ∧ Dc lo hi db rb w' rest
    | .er n => e = .panicked (En db) ∧ Fl db rb w' n
def rdr : Rdr where
  RI := fun lo hi _ ρ w l => ∃ rb db, ρ = ⟨rb, 0, none⟩ ∧ Btw lo hi rb ∧ Btw lo hi db ∧ rb ≠ db ∧ hi ≤ w.heap.size ∧ (Rp rb db w ∧ Fr lo hi rb db w) ∧ Dc lo hi db rb w l ∧ l.length ≤ 65536
  St := fun lo hi _ ρ w n ch => ∃ rb db, ρ = ⟨rb, 0, none⟩ ∧ Btw lo hi rb ∧ Btw lo hi db ∧ rb ≠ db ∧ hi ≤ w.heap.size ∧ Fr lo hi rb db w ∧ Fl db rb w n ∧ ch = En db ∧ 0 < n

theorem Dc.keep {lo hi db rb : Nat} {w w' : World} {l : List Nat} (h : Dc lo hi db rb w l) (hd : w'.heap[db]? = w.heap[db]?) (hk : ∀ k, Btw lo hi k → w'.heap[k]? = w.heap[k]?) : Dc lo hi db rb w' l := by
  obtain ⟨A, c, h1, h2, h3, h4⟩ := h
  refine ⟨A, c, hd.trans h1, ⟨h2.1, fun i hi => ?_⟩, h3, h4⟩
  obtain ⟨b, o, e, hc⟩ := h2.2 i hi
  exact ⟨b, o, e, (World.cell?_of_block (a := ⟨b, o + i, none⟩) (hk b (h4 b o e (by omega)).1)).trans hc⟩
theorem Fr.keep {lo hi rb db : Nat} {w w' : World} (h : Fr lo hi rb db w) (hk : ∀ k, Btw lo hi k → k ≠ db → w'.heap[k]? = w.heap[k]?) : Fr lo hi rb db w' := by
  obtain ⟨h1, h2, h3, h4, h5⟩ := h
  exact ⟨h1, h2, h3, (hk (db + 1) ⟨by omega, by omega⟩ (by omega)).trans h4, (hk lo ⟨by omega, by omega⟩ (by omega)).trans h5⟩
theorem cd_keep (lo hi : Nat) (B : Option Addr) (ρ : Addr) (w w' : World) (l : List Nat) (h : rdr.RI lo hi B ρ w l) (hk : ∀ k, Btw lo hi k → w'.heap[k]? = w.heap[k]?) : rdr.RI lo hi B ρ w' l := by
  obtain ⟨rb, db, h1, h2, h3, h4, h5, h6, h7, h8⟩ := h
  refine ⟨rb, db, h1, h2, h3, h4, ?_, ⟨(hk _ h2).trans h6.1, h6.2.keep fun k h _ => hk k h⟩, h7.keep (hk _ h3) hk, h8⟩
  have hp : ∀ k, Btw lo hi k → k < w'.heap.size := fun k hb => by
    have e := hk k hb
    rcases Nat.lt_or_ge k w'.heap.size with h | h
    · exact h
    · rw [Array.getElem?_eq_none h] at e
      have := Array.getElem?_eq_none_iff.1 e.symm
      have := hb.2
      omega
  have := hp (hi - 1) ⟨by have := h2.1; have := h2.2; omega, by have := h2.2; omega⟩
  omega

theorem run_equalIn_same (d : Nat) (t e : TypeId) (p : Addr) (w : World) (h : Try.prog.underlying t = some (.pointer e)) (hi : (Try.prog.info? e).isSome = true) : (Op.equalIn (d + 1) t (.pointer (some p)) (.pointer (some p))).run Try.prog w = .ok true w := by
  obtain ⟨i, hi⟩ := Option.isSome_iff_exists.1 hi
  simp [Op.equalIn, run_underlying h, sizeOf, typeInfo, hi, sameAddr]
theorem run_neq_same (p : Addr) (w : World) : (binOp .neq 64 (.pointer (some p)) (.pointer (some p))).run Try.prog w = .ok (.bool false) w := by
  have h := run_equalIn_same 9999 64 91 p w Try.underlying64 (by kernel_rfl)
  have h' : (Op.equal 64 (.pointer (some p)) (.pointer (some p))).run Try.prog w = .ok true w := h
  simp only [binOp]
  simp [h']
theorem run_eql_same (p : Addr) (w : World) : (binOp .eql 87 (.pointer (some p)) (.pointer (some p))).run Try.prog w = .ok (.bool true) w := by
  have h := run_equalIn_same 9999 87 89 p w Try.underlying87 (by kernel_rfl)
  have h' : (Op.equal 87 (.pointer (some p)) (.pointer (some p))).run Try.prog w = .ok true w := h
  simp only [binOp]
  simp [h']

set_option maxHeartbeats 800000 in
theorem cd_running (rb db lo hi : Nat) (l : List Nat) (w : World) (h1 : Rp rb db w) (h2 : Dc lo hi db rb w l) :
    Calls Try.prog 50 #[.pointer (some ⟨rb, 0, none⟩)] w (fun e w' => e = .returned (.pointer (some ⟨db, 0, none⟩)) ∧ w = w') := by
  obtain ⟨A, c, h3, _⟩ := h2
  have a1 : w.cell? ⟨rb, 0, none⟩ = some (.pointer (some ⟨db, 0, none⟩)) := by rw [cell_of_row w _ 0 _ _ _ h1]; rfl
  have a2 : w.cell? ⟨db, 0, none⟩ = some (.pointer (some ⟨rb, 0, none⟩)) := by rw [cell_of_row w _ 0 _ _ _ h3]; rfl
  clear h1 h3
  have hne := fun W => run_neq_same ⟨rb, 0, none⟩ W
  go_enter Try.func50, Try.ntmps50
  go_wp2
  go_ret
  exact ⟨rfl, rfl⟩

set_option maxHeartbeats 800000 in
theorem cd_limit (m : Nat) (w : World) (hm : m < 9223372036854775808) :
    Calls Try.prog 49 #[.int .i64 (m : Int)] w (fun e w' => e = .returned (.int .u64 (m : Int)) ∧ w = w') := by
  have e1 : IntKind.u64.wrap (m : Int) = (m : Int) := by rw [IntKind.wrap_u64]; omega
  have d1 : (if (m : Int) < 0 then (0 : Int) else (m : Int)) = (m : Int) := if_neg (by omega)
  go_enter Try.func49, Try.ntmps49
  go_wp2
  all_goals go_ret
  all_goals first | exact ⟨rfl, rfl⟩ | skip

set_option maxHeartbeats 1600000 in
theorem cd_fail (rb db lo hi n : Nat) (l : List Nat) (w : World) (h2 : Dc lo hi db rb w l) :
    Calls Try.prog 54 #[.pointer (some ⟨db, 0, none⟩), .int .i64 (n : Int)] w (fun e w' => e = .returned (.agg #[.pointer (some ⟨db, 0, none⟩)]) ∧ Only (fun k => k = db) w w' ∧ Fl db rb w' n) := by
  obtain ⟨A, c, h3, _⟩ := h2
  have hlt : db < w.heap.size := (Array.getElem?_eq_some_iff.1 h3).1
  obtain ⟨S, hS⟩ : ∃ S, Value.slice A l.length c = S := ⟨_, rfl⟩
  rw [hS] at h3
  clear hS
  have c1 : w.cell? ⟨db, 1, none⟩ = some S := by rw [cell_of_row w _ 1 _ _ _ h3]; rfl
  have c2 : w.cell? ⟨db, 2, none⟩ = some (.int .i64 0) := by rw [cell_of_row w _ 2 _ _ _ h3]; rfl
  have z1 : w.frozen? ⟨db, 1, none⟩ = false := frozen_of_row w _ 1 _ _ h3
  have z2 : w.frozen? ⟨db, 2, none⟩ = false := frozen_of_row w _ 2 _ _ h3
  go_enter Try.func54, Try.ntmps54
  go_wp2
  have h5 := heap_setCell_same _ db 1 _ _ (.slice none 0 0) (heap_setCell_same w db 2 _ _ (.int .i64 (n : Int)) h3)
  have hsz : ((w.setCell ⟨db, 2, none⟩ (.int .i64 (n : Int))).setCell ⟨db, 1, none⟩ (.slice none 0 0)).heap.size = w.heap.size := by simp [World.setCell]
  have h6 := heap_alloc_new ((w.setCell ⟨db, 2, none⟩ (.int .i64 (n : Int))).setCell ⟨db, 1, none⟩ (.slice none 0 0)) (.cells #[.pointer (some ⟨db, 0, none⟩)] 95)
  rw [hsz] at h6
  refine bodyPost_ret (results_cell_row Try.results54 _ _ w.heap.size _ _ _ _ rfl h6 Try.underlying95 rfl (by kernel_rfl)) rfl ⟨rfl, ?_, ?_⟩
  · exact ((Only.of_grown (grown_set' w db 2 _) (fun k e => by injection e with e; exact e.symm)).trans (Only.of_grown (grown_set' _ db 1 _) (fun k e => by injection e with e; exact e.symm))).trans (Only.of_ext ((Ext.refl _).alloc _))
  · exact (heap_alloc_old _ _ (by rw [hsz]; exact hlt)).trans h5
end Go.Proofs.Ytnfgokbopndmgaa

/-
  What take of layer 8 does. Conditions: no more than 2^16 bytes are left.
-/
namespace Go.Proofs.Ytnfgokbopndmgaa
open Go.RowKit
open Pol (co Sm)

/-- Bytes of the decoding's own. -/
def InB (v : Value) (w : World) (t : List Nat) : Prop := ∃ A c, v = .slice A t.length c ∧ Rd w A t ∧ t.length ≤ c
theorem tab_drop (l : List Nat) (k : Nat) (h : k ≤ l.length) : tab (l.length - k) (fun j => co l (k + j)) = l.drop k := by
  apply List.ext_getElem?
  intro i
  unfold tab
  rw [List.getElem?_map, List.getElem?_drop]
  by_cases hi : i < l.length - k
  · rw [List.getElem?_range hi]
    have : k + i < l.length := by omega
    simp [co, List.getElem?_eq_getElem this]
  · rw [List.getElem?_eq_none (by simp; omega), List.getElem?_eq_none (by omega)]
    rfl

/-- s[:h], s[l:] of bytes, the bound of any kind. -/
theorem run_to_k (k : IntKind) (A : Option Addr) (len cap h : Nat) (hh : h ≤ cap) (W : World) :
    (Instr.slice 23 (.slice A len cap) none (some (.int k (h : Int))) none).run Try.prog W = .ok (.slice A h cap) W := by
  obtain ⟨i0, hi, hz0, hz1, hz2⟩ := info_parts u8_info
  have he : Try.prog.elem 23 = 5 := by kernel_rfl
  rw [run_slice_h W 23 _ len cap (by rw [he]; exact Try.underlying23) k (h : Int) (by omega) (by omega), he]
  cases A <;> simp [sizeOf, typeInfo, hi, hz1, Result.andThen, sliced, Addr.add]
theorem run_rest_k (k : IntKind) (A : Option Addr) (len cap l : Nat) (hl : l ≤ len) (hc : len ≤ cap) : ∃ X : Option Addr, (∀ W, (Instr.slice 23 (.slice A len cap) (some (.int k (l : Int))) none none).run Try.prog W = .ok (.slice X (len - l) (cap - l)) W) ∧
    (∀ w L, Rd w A L → L.length = len → Rd w X (L.drop l)) ∧ (∀ w L b o, Rd w A L → L.length = len → 0 < len - l → X = some ⟨b, o, none⟩ → ∃ o', A = some ⟨b, o', none⟩) := by
  obtain ⟨i0, hi, hz0, hz1, hz2⟩ := info_parts u8_info
  have he : Try.prog.elem 23 = 5 := by kernel_rfl
  refine ⟨if cap = l then A else A.map (·.add l), fun W => ?_, fun w L h hL => ?_, fun w L b o h hL h0 e => ?_⟩
  · rw [run_slice_l W 23 _ len cap (by rw [he]; exact Try.underlying23) k (l : Int) (by omega) (by omega), he]
    cases A <;> simp [sizeOf, typeInfo, hi, hz1, Result.andThen, sliced]
  · subst hL
    rw [← tab_drop L l hl]
    refine ⟨tab_sm _ _ fun _ _ => h.1 _, fun i hi => ?_⟩
    rw [tab_len] at hi
    obtain ⟨b', o', e, hc⟩ := h.2 (l + i) (by omega)
    subst e
    refine ⟨b', o' + l, by rw [if_neg (by omega)]; simp [addr_add], ?_⟩
    rw [co_tab, if_pos hi, Nat.add_assoc]
    exact hc
  · obtain ⟨b', o', e', _⟩ := h.2 0 (by omega)
    subst e'
    rw [if_neg (by omega)] at e
    simp [addr_add] at e
    exact ⟨o', by rw [e.1]⟩
theorem Only.put (w : World) (db o : Nat) (v : Value) : Only (fun k => k = db) w (w.setCell ⟨db, o, none⟩ v) := Only.of_grown (grown_set' w db o _) (fun k e => by injection e with e; exact e.symm)
/-- What is left now lies at X. -/
theorem Dc.cut {lo hi db rb : Nat} {w : World} {l : List Nat} {A X : Option Addr} {c c' n : Nat} (h3 : w.heap[db]? = some (.cells #[.pointer (some ⟨rb, 0, none⟩), .slice A l.length c, .int .i64 0] 89 (0, 0))) (hr : Rd w A l)
    (hb : ∀ b o, A = some ⟨b, o, none⟩ → 0 < l.length → Btw lo hi b ∧ b ≠ db) (hX : ∀ w L, Rd w A L → L.length = l.length → Rd w X (L.drop n))
    (hXA : ∀ w L b o, Rd w A L → L.length = l.length → 0 < l.length - n → X = some ⟨b, o, none⟩ → ∃ o', A = some ⟨b, o', none⟩) (hc : l.length - n ≤ c') :
    Dc lo hi db rb (w.setCell ⟨db, 1, none⟩ (.slice X (l.length - n) c')) (l.drop n) := by
  refine ⟨X, c', ?_, ?_, by rw [List.length_drop]; exact hc, fun b o e h => ?_⟩
  · rw [heap_setCell_same w db 1 _ _ _ h3, List.length_drop]; rfl
  · have h := hX w l hr rfl
    refine ⟨h.1, fun i hi => ?_⟩
    obtain ⟨b, o, e, hc⟩ := h.2 i hi
    rw [List.length_drop] at hi
    obtain ⟨o', e'⟩ := hXA w l b o hr rfl (by omega) e
    have := (hb b o' e' (by omega)).2
    exact ⟨b, o, e, (World.cell?_of_block (a := ⟨b, o + i, none⟩) (heap_setCell_other w ⟨db, 1, none⟩ b _ this)).trans hc⟩
  · rw [List.length_drop] at h
    obtain ⟨o', e'⟩ := hXA w l b o hr rfl h e
    exact hb b o' e' (by omega)

set_option maxHeartbeats 1600000 in
theorem cd_take (rb db lo hi n : Nat) (l : List Nat) (w : World) (hd : Dc lo hi db rb w l) (hl : l.length ≤ 65536) :
    Calls Try.prog 52 #[.pointer (some ⟨db, 0, none⟩), .int .u64 (n : Int)] w (DReads lo hi db rb InB (rdB n l) w) := by
  have HF := Lib.hid (cd_fail rb db lo hi 2 l w hd)
  obtain ⟨A, c, h3, hr, hlc, hAb⟩ := hd
  have hlt : db < w.heap.size := (Array.getElem?_eq_some_iff.1 h3).1
  obtain ⟨L, hL⟩ : ∃ L, l.length = L := ⟨_, rfl⟩
  rw [hL] at h3 hlc hl hAb
  have HL := Lib.hid hL
  have HAB := Lib.hid hAb
  clear hAb
  have c1 : w.cell? ⟨db, 1, none⟩ = some (.slice A L c) := by rw [cell_of_row w _ 1 _ _ _ h3]; rfl
  have z1 : w.frozen? ⟨db, 1, none⟩ = false := frozen_of_row w _ 1 _ _ h3
  have H3 := Lib.hid h3
  have HR := Lib.hid hr
  have e1 : IntKind.u64.wrap (L : Int) = (L : Int) := by rw [IntKind.wrap_u64]; omega
  clear hL h3 hr
  by_cases hc : L < n
  · have d1 : decide ((L : Int) < (n : Int)) = true := decide_eq_true (by omega)
    have hrd : rdB n l = .er 2 := by unfold rdB; rw [if_pos (by rw [HL.out]; exact hc)]
    rw [hrd]
    go_enter Try.func52, Try.ntmps52
    go_wp2_with fail
    refine HF.out.mono ?_
    rintro e w1 ⟨rfl, ho, hfl⟩
    have HO := Lib.hid ho
    have HFL := Lib.hid hfl
    clear ho hfl
    go_wp2
    exact ⟨rfl, HO.out, rfl, HFL.out⟩
  · have d1 : decide ((L : Int) < (n : Int)) = false := decide_eq_false (by omega)
    have hrd : rdB n l = .ok (l.take n) (l.drop n) := by unfold rdB; rw [if_neg (by rw [HL.out]; exact hc)]
    rw [hrd]
    have s1 := fun W => run_to_k .u64 A L c n (by omega) W
    obtain ⟨X, s2, hX, hXa⟩ := run_rest_k .u64 A L c n (by omega) hlc
    have hdc : Dc lo hi db rb (w.setCell ⟨db, 1, none⟩ (.slice X (L - n) (c - n))) (l.drop n) := by
      have hlL := HL.out
      subst hlL
      exact Dc.cut H3.out HR.out HAB.out hX hXa (by omega)
    have hrt : Rd (w.setCell ⟨db, 1, none⟩ (.slice X (L - n) (c - n))) A (l.take n) := by
      have h := HR.out.take n
      refine ⟨h.1, fun i hi => ?_⟩
      obtain ⟨b, o, e, hc⟩ := h.2 i hi
      rw [List.length_take] at hi
      have := (HAB.out b o e (by have := HL.out; omega)).2
      exact ⟨b, o, e, (World.cell?_of_block (a := ⟨b, o + i, none⟩) (heap_setCell_other w ⟨db, 1, none⟩ b _ this)).trans hc⟩
    have HDC := Lib.hid hdc
    have HRT := Lib.hid hrt
    have HN := Lib.hid (show (l.take n).length = n by rw [List.length_take, HL.out]; omega)
    clear hX hXa HF hdc hrt
    go_enter Try.func52, Try.ntmps52
    go_wp2
    go_ret
    exact ⟨Only.put _ _ _ _, _, rfl, ⟨A, c, by rw [HN.out]; rfl, HRT.out, by rw [HN.out]; omega⟩, HDC.out⟩
end Go.Proofs.Ytnfgokbopndmgaa

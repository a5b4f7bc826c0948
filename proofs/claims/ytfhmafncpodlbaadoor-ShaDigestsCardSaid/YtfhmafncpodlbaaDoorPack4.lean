/-
  Part 4 of the texts that the seat's proofs stand on; each part of it begins with its own sentence and conditions. Conditions: those that each theorem names.
-/
import Derived.Test.YtfhmafncpodlbaaDoorPack3
import Derived.Orders
import Derived.StillTail
import Derived.Deep.DeepCutAuto
import Derived.Maps.AppendAt
import Derived.Great.BuildSlice

/-
  A region that draws its order, by an invariant: what holds of the listed operations, whichever they are, is kept by each operation that may come up next. Conditions: each operation waits for operations ahead of it in the text alone; of no program in particular.
-/
namespace Go.Proofs.YtfhmafncpodlbaaDoor
open Go

section
variable {P : Program} {ops : Array Oper} {Q : Exit → Act → World → Prop}

theorem Oper.wp_then {o : Oper} {a : Act} {w : World} {K K' : Act → World → Prop} (h : ∀ a w, K' a w → K a w) (hh : o.wp P a w K' (Exit.then K Q)) : o.wp P a w K Q := by
  unfold Oper.wp at *
  generalize (execOp a.eval o).run P w = r at *
  cases r with
  | ok n w' =>
    cases n <;> simp only [Oper.upon] at hh ⊢ <;>
      first
        | exact h _ _ hh
        | exact Calls.mono hh (fun e w'' he => by cases e <;> first | exact h _ _ he | exact he)
        | exact Rows.mono hh (fun _ _ he => h _ _ he)
  | halt x w' => cases x <;> simp only [Oper.upon] at hh ⊢ <;> exact hh
theorem wpOp_of_one {i : Nat} {o : Oper} {a : Act} {w : World} {K : Act → World → Prop} (hi : ops[i]? = some o) (h : wpList P ops (Exit.then K Q) [o] a w) : wpOp P ops Q i K a w := by
  unfold wpOp
  rw [hi]
  simp only
  unfold wpList at h
  split
  · rename_i hw
    rw [if_pos hw] at h
    rcases h with h | h
    · exact .inl (Oper.wp_then (fun a w h => by unfold wpList at h; exact h) h)
    · exact .inr h
  · rename_i hw
    rw [if_neg hw] at h
    unfold wpList at h
    exact h
def depsB (l : List Oper) : Bool := (List.range l.length).all fun i => match l[i]? with | some o => o.after.all (fun e => decide (e.on < i)) | none => true
theorem depsB_spec {l : List Oper} (h : depsB l = true) {i : Nat} {o : Oper} (hi : l[i]? = some o) : ∀ e ∈ o.after, e.on < i := by
  have hlt : i < l.length := (List.getElem?_eq_some_iff.1 hi).1
  have h1 := List.all_eq_true.1 h i (List.mem_range.2 hlt)
  rw [hi] at h1
  intro e he
  have h2 := (Array.all_eq_true_iff_forall_mem.1 h1) e he
  simpa using h2
theorem getD_true_of {L : Array Bool} {k : Nat} (h : L.getD k false = true) : L.getD k true = true := by
  rw [Array.getD_eq_getD_getElem?] at h ⊢
  cases hk : L[k]? with
  | none => rfl
  | some b => rw [hk] at h; exact h
theorem getD_false_of {L : Array Bool} {k : Nat} (hk : k < L.size) (h : L.getD k true = true) : L.getD k false = true := by
  rw [Array.getD_eq_getD_getElem?] at h ⊢
  rw [Array.getElem?_eq_getElem hk] at h ⊢
  exact h
theorem getD_listed (L : Array Bool) (i j : Nat) : (L.setIfInBounds i true).getD j true = (j == i || L.getD j true) := by
  by_cases e : j = i
  · subst e
    rw [Array.getD_eq_getD_getElem?, Array.getElem?_setIfInBounds_self]
    split <;> simp
  · rw [getD_set_ne true (fun h => e h.symm), show (j == i) = false from beq_eq_false_iff_ne.2 e, Bool.false_or]

theorem wpAny_inv {l : List Oper} (I : (Nat → Bool) → Act → World → Prop) (hB : depsB l = true)
    (hs : ∀ i o, l[i]? = some o → ∀ L a w, I L a w → L i = false → (∀ e ∈ o.after, Region.binds .any e = true → L e.on = true) → wpList P l.toArray (Exit.then (fun a' w' => I (fun j => j == i || L j) a' w') Q) [o] a w)
    (he : ∀ L a w, (∀ i, i < l.length → L i = true) → I L a w → Q .normal a w) :
    ∀ (f : Nat) (L : Array Bool) (a : Act) (w : World) (U : List Nat), L.size = l.length → U.length = f → (∀ i, L.getD i true = false → i ∈ U) → I (fun i => L.getD i true) a w → wpAny P .any l.toArray Q f L a w := by
  have hall : ∀ L : Array Bool, L.size = l.length → Region.ready .any l.toArray L = [] → ∀ i, i < l.length → L.getD i true = true := fun L hsz hr i => by
    induction i using Nat.strongRecOn with
    | _ i ih =>
      intro hi
      cases hb : L.getD i true with
      | true => rfl
      | false =>
        have hoi : l.toArray[i]? = some l[i] := by simp [hi]
        have hm : i ∈ Region.ready .any l.toArray L := mem_ready.2 ⟨hb, _, hoi, fun e hee _ => by
          have hlt := depsB_spec hB (i := i) (o := l[i]) (by simp [hi]) e hee
          exact getD_false_of (by omega) (ih e.on hlt (by omega))⟩
        rw [hr] at hm
        cases hm
  intro f
  induction f with
  | zero =>
    intro L a w U hsz hU hin hI
    have hU0 : U = [] := List.eq_nil_of_length_eq_zero hU
    subst hU0
    have hL : ∀ i, L.getD i true = true := fun i => by
      cases hb : L.getD i true with
      | true => rfl
      | false => exact absurd (hin i hb) (by simp)
    refine ⟨?_, he _ a w (fun i _ => hL i) hI⟩
    rcases hr : Region.ready .any l.toArray L with _ | ⟨i, r⟩
    · rfl
    · have hm : i ∈ Region.ready .any l.toArray L := by rw [hr]; simp
      have := (mem_ready.1 hm).1
      rw [hL i] at this
      cases this
  | succ f ih =>
    intro L a w U hsz hU hin hI
    refine ⟨fun hr => he _ a w (hall L hsz hr) hI, fun i hi => ?_⟩
    obtain ⟨hun, o, ho, haft⟩ := mem_ready.1 hi
    have ho' : l[i]? = some o := by simpa using ho
    have h1 := hs i o ho' _ a w hI hun (fun e hee hb => getD_true_of (haft e hee hb))
    have hU' : (U.erase i).length = f := by rw [List.length_erase_of_mem (hin i hun)]; omega
    refine wpOp_mono (fun a' w' hI' => ?_) (wpOp_of_one ho h1)
    refine ih _ a' w' (U.erase i) (by simpa using hsz) hU' (fun j hj => ?_) ?_
    · rw [getD_listed, Bool.or_eq_false_iff] at hj
      exact (List.mem_erase_of_ne (by simpa using hj.1)).2 (hin j hj.2)
    · simp only [getD_listed]
      exact hI'
theorem wp_region_inv {id : Nat} {a : Act} {w : World} {l : List Oper} (I : (Nat → Bool) → Act → World → Prop) (hm : P.follows .mixedOrders = true) (hB : depsB l = true) (h0 : I (fun i => !decide (i < l.length)) a w.drew)
    (hs : ∀ i o, l[i]? = some o → ∀ L a w, I L a w → L i = false → (∀ e ∈ o.after, Region.binds .any e = true → L e.on = true) → wpList P l.toArray (Exit.then (fun a' w' => I (fun j => j == i || L j) a' w') Q) [o] a w)
    (he : ∀ L a w, (∀ i, i < l.length → L i = true) → I L a w → wpList P l.toArray Q [] a w) : (Code.region id l.toArray true).wp P Q a w := by
  have e0 : (fun i => (Array.replicate l.toArray.size false).getD i true) = fun i => !decide (i < l.length) := by
    funext i
    rw [Array.getD_eq_getD_getElem?, Array.getElem?_replicate]
    by_cases h : i < l.length <;> simp [h]
  refine wp_region_any hm ?_
  refine wpAny_inv I hB hs he l.toArray.size _ a _ (List.range l.length) (by simp) (by simp) (fun i hi => ?_) (by rw [e0]; exact h0)
  have h1 := congrFun e0 i
  rw [hi] at h1
  exact List.mem_range.2 (by simpa using h1.symm)
end
end Go.Proofs.YtfhmafncpodlbaaDoor

/-
  A region that draws its order, some of whose operations only read what stays: these may be taken ahead of the others, and the others come one after the other. Conditions: a check of the region's text (by the kernel); of no program in particular.
-/
namespace Go.Proofs.YtfhmafncpodlbaaDoor
open Go

section
variable {P : Program} {ops : Array Oper} {Q : Exit → Act → World → Prop} {md : Region.Mode} {C : World → Prop}

/-- In every world of the class the operation yields v and leaves the world alone. -/
def YieldsC (P : Program) (ops : Array Oper) (C : World → Prop) (o : Oper) (v : Value) (a : Act) : Prop :=
  (Region.wanted o (yielded ops a.tmps) = true ∧ ∀ w, C w → (execOp a.eval o).run P w = .ok (.value v) w) ∨ (Region.wanted o (yielded ops a.tmps) = false ∧ v = undef) ∨
    (Region.wanted o (yielded ops a.tmps) = true ∧ ∃ f args, (∀ w, C w → (execOp a.eval o).run P w = .ok (.enter f args) w) ∧ ∀ w, C w → Calls P f args w (fun e w' => e = .returned v ∧ w = w'))
theorem YieldsC.wpOp {i : Nat} {o : Oper} {v : Value} {a : Act} (hi : ops[i]? = some o) (hy : YieldsC P ops C o v a) {K : Act → World → Prop} {w : World} (hw : C w) (h : K (a.put o.dst v) w) : wpOp P ops Q i K a w := by
  unfold Go.wpOp
  simp only [hi]
  rcases hy with ⟨hg, hv⟩ | ⟨hg, rfl⟩ | ⟨hg, f, args, hv, hc⟩
  · simp only [hg, if_true, Oper.wp, hv w hw, Oper.upon]; exact .inl h
  · simp only [hg, Bool.false_eq_true, if_false]; exact h
  · simp only [hg, if_true, Oper.wp, hv w hw, Oper.upon]
    refine .inl (Calls.mono (hc w hw) ?_)
    rintro e w' ⟨rfl, rfl⟩
    exact h
theorem YieldsC.of_same {o : Oper} {v : Value} {a a' : Act} (hy : YieldsC P ops C o v a) (he : execOp a'.eval o = execOp a.eval o) (hw : Region.wanted o (yielded ops a'.tmps) = Region.wanted o (yielded ops a.tmps)) : YieldsC P ops C o v a' := by
  unfold YieldsC at *
  rw [he, hw]
  exact hy
theorem wpOp_putC {j : Nat} {oi oj : Oper} {v : Value} (hj : ops[j]? = some oj) (hap : oi.apart ops oj = true) (hsi : ∀ cs b, oi.op ≠ .select cs b) (hsj : ∀ cs b, oj.op ≠ .select cs b)
    (hQ : ∀ c a w, Q (.panic c) (a.put oi.dst v) w → Q (.panic c) a w) {K : Act → World → Prop} {a : Act} {w : World} (hy : YieldsC P ops C oi v a) (h : wpOp P ops Q j K (a.put oi.dst v) w) :
    wpOp P ops Q j (fun a' w' => YieldsC P ops C oi v a' ∧ K (a'.put oi.dst v) w') a w := by
  obtain ⟨h1, h2, h3⟩ := Oper.apart_spec hap
  have keep : ∀ (a : Act), YieldsC P ops C oi v a → ∀ u, YieldsC P ops C oi v (a.put oj.dst u) := fun a hy u => hy.of_same (execOp_put oi hsi a oj.dst u h3) (wanted_put oi a oj.dst u h3)
  have keepD : ∀ d, YieldsC P ops C oi v { a with defers := d :: a.defers } := fun d => hy.of_same rfl rfl
  unfold wpOp at *
  simp only [hj] at *
  rw [wanted_put oj a oi.dst v h1] at h
  split
  · rename_i hw
    simp only [hw, if_true] at h
    rcases h with h | ⟨hasks, hlets⟩
    case inr => exact .inr ⟨by unfold Oper.asks at *; rw [execOp_put oj hsj a oi.dst v h1] at hasks; exact hasks, hlets⟩
    refine .inl ?_
    unfold Oper.wp at *
    rw [execOp_put oj hsj a oi.dst v h1] at h
    generalize (execOp a.eval oj).run P w = r at *
    cases r with
    | ok n w' =>
      cases n <;> simp only [Oper.upon] at h ⊢
      case value u => exact ⟨keep a hy u, by rw [← Act.put_comm a v u h2]; exact h⟩
      case skip => exact ⟨keep a hy _, by rw [← Act.put_comm a v undef h2]; exact h⟩
      case defer d =>
        refine ⟨keep _ (keepD d) _, ?_⟩
        rw [← Act.put_comm _ v undef h2, ← Act.put_defers]
        exact h
      case enter f args =>
        refine Calls.mono h fun e w'' he => ?_
        cases e with
        | returned u => exact ⟨keep a hy u, by rw [← Act.put_comm a v u h2]; exact he⟩
        | panicked c => exact hQ _ _ _ he
        | outgrown => exact he
      case row row args => exact Rows.mono h fun u w'' he => ⟨keep a hy u, by rw [← Act.put_comm a v u h2]; exact he⟩
    | halt x w' =>
      cases x <;> simp only [Oper.upon] at h ⊢
      case panic u => exact hQ _ _ _ h
  · rename_i hw
    simp only [hw] at h
    exact ⟨keep a hy _, by rw [← Act.put_comm a v undef h2]; exact h⟩

/-- As wpAny, and the operations of F leave the world in the class. -/
def wpAnyC (P : Program) (md : Region.Mode) (ops : Array Oper) (C : World → Prop) (F : Nat → Bool) (Q : Exit → Act → World → Prop) : Nat → Array Bool → Act → World → Prop
  | 0, listed, a, w => Region.ready md ops listed = [] ∧ Q .normal a w
  | fuel + 1, listed, a, w => (Region.ready md ops listed = [] → Q .normal a w) ∧ ∀ i ∈ Region.ready md ops listed, wpOp P ops Q i (fun a' w' => (F i = true → C w') ∧ wpAnyC P md ops C F Q fuel (listed.setIfInBounds i true) a' w') a w
theorem wpAny_of_C {F : Nat → Bool} : ∀ (fuel : Nat) (listed : Array Bool) (a : Act) (w : World), wpAnyC P md ops C F Q fuel listed a w → wpAny P md ops Q fuel listed a w
  | 0, _, _, _, h => h
  | fuel + 1, _, _, _, h => ⟨h.1, fun i hi => wpOp_mono (fun a' w' h' => wpAny_of_C fuel _ a' w' h'.2) (h.2 i hi)⟩
/-- What is listed waits for nothing that is not. -/
def Closed (md : Region.Mode) (ops : Array Oper) (listed : Array Bool) : Prop := ∀ j oj, ops[j]? = some oj → listed.getD j false = true → ∀ e ∈ oj.after, Region.binds md e = true → listed.getD e.on false = true
theorem Closed.set {listed : Array Bool} (h : Closed md ops listed) {i : Nat} (hi : i ∈ Region.ready md ops listed) : Closed md ops (listed.setIfInBounds i true) := fun j oj hoj hl e he hb => by
  by_cases hji : j = i
  · subst hji
    obtain ⟨_, o, ho, hall⟩ := mem_ready.1 hi
    rw [hoj] at ho
    injection ho with ho
    subst ho
    exact getD_set_true (hall e he hb)
  · rw [getD_set_ne false (fun h => hji h.symm)] at hl
    exact getD_set_true (h j oj hoj hl e he hb)
/-- What stands behind i; what is not of F does. -/
def bhStep (md : Region.Mode) (ops : Array Oper) (i : Nat) (acc : List Nat) (j : Nat) : List Nat :=
  match ops[j]? with
  | some oj => if oj.after.any (fun e => Region.binds md e && (e.on == i || acc.contains e.on)) then j :: acc else acc
  | none => acc
def behindB (md : Region.Mode) (ops : Array Oper) (F : Nat → Bool) (i : Nat) : Bool :=
  (List.range ops.size).all fun j => j == i || F j || ((List.range ops.size).foldl (bhStep md ops i) []).contains j
theorem bh_fold {i : Nat} {listed : Array Bool} (hc : Closed md ops listed) (hi : listed.getD i false = false) : ∀ (l acc : List Nat), (∀ j ∈ acc, listed.getD j false = false ∧ j ∉ Region.ready md ops listed) →
    ∀ j ∈ l.foldl (bhStep md ops i) acc, listed.getD j false = false ∧ j ∉ Region.ready md ops listed
  | [], acc, h => h
  | k :: l, acc, h => by
    refine bh_fold hc hi l (bhStep md ops i acc k) ?_
    unfold bhStep
    cases hk : ops[k]? with
    | none => exact h
    | some ok =>
      simp only
      split
      · rename_i hany
        intro j hj
        rcases List.mem_cons.1 hj with e | e
        · subst e
          obtain ⟨e, he, hb⟩ := Array.any_eq_true'.1 hany
          simp only [Bool.and_eq_true, Bool.or_eq_true, beq_iff_eq] at hb
          have hno : listed.getD e.on false = false := by
            rcases hb.2 with h2 | h2
            · rw [h2]; exact hi
            · exact (h e.on (by simpa using h2)).1
          constructor
          · cases hl : listed.getD j false with
            | false => rfl
            | true =>
              have := hc j ok hk hl e he hb.1
              rw [hno] at this
              cases this
          · intro hr
            obtain ⟨_, o, ho, hall⟩ := mem_ready.1 hr
            rw [hk] at ho
            injection ho with ho
            subst ho
            have := hall e he hb.1
            rw [hno] at this
            cases this
        · exact h j e
      · exact h
theorem behind_not {F : Nat → Bool} {i : Nat} (hB : behindB md ops F i = true) {listed : Array Bool} (hc : Closed md ops listed) (hi : listed.getD i false = false) :
    ∀ j, j < ops.size → j ≠ i → F j = false → listed.getD j false = false ∧ j ∉ Region.ready md ops listed := fun j hj hji hF => by
  have h1 := List.all_eq_true.1 hB j (List.mem_range.2 hj)
  simp only [hF, Bool.or_false, Bool.or_eq_true, beq_iff_eq, hji, false_or] at h1
  exact bh_fold hc hi _ [] (fun _ h => absurd h (by simp)) j (by simpa using h1)

theorem wpAnyC_first {F : Nat → Bool} {i : Nat} {oi : Oper} {v : Value} (hi : ops[i]? = some oi) (hsel : ∀ (j : Nat) (o : Oper) cs b, ops[j]? = some o → o.op ≠ .select cs b)
    (hQ : ∀ c a w, Q (.panic c) (a.put oi.dst v) w → Q (.panic c) a w) (hB : behindB md ops F i = true) :
    ∀ (fuel : Nat) (listed : Array Bool) (a : Act) (w : World), C w → Closed md ops listed →
      (∀ j oj, ops[j]? = some oj → j ≠ i → listed.getD j true = false → (∀ e ∈ oj.after, Region.binds md e = true → e.on ≠ i) → oi.apart ops oj = true) →
      i ∈ Region.ready md ops listed → YieldsC P ops C oi v a →
      wpAnyC P md ops C F Q fuel (listed.setIfInBounds i true) (a.put oi.dst v) w → wpAnyC P md ops C F Q (fuel + 1) listed a w := by
  intro fuel
  induction fuel with
  | zero =>
    intro listed a w hC _ _ hr hy H
    refine ⟨fun h => (by rw [h] at hr; cases hr), fun j hj => ?_⟩
    by_cases hji : j = i
    · subst hji; exact hy.wpOp hi hC ⟨fun _ => hC, H⟩
    · have := ready_mono hj hji
      rw [H.1] at this
      cases this
  | succ fuel ih =>
    intro listed a w hC hcl hfree hr hy H
    refine ⟨fun h => (by rw [h] at hr; cases hr), fun j hj => ?_⟩
    by_cases hji : j = i
    · subst hji; exact hy.wpOp hi hC ⟨fun _ => hC, H⟩
    · have h1 := H.2 j (ready_mono hj hji)
      obtain ⟨hjun, oj, hoj, hall⟩ := mem_ready.1 hj
      have hiun := (mem_ready.1 hr).1
      have hnot : ∀ e ∈ oj.after, Region.binds md e = true → e.on ≠ i := fun e he hb heq => by
        have h1 := hall e he hb
        rw [heq, getD_both hiun] at h1
        cases h1
      have hFj : F j = true := by
        cases hF : F j with
        | true => rfl
        | false => exact absurd hj (behind_not hB hcl (getD_both hiun) j (Array.getElem?_eq_some_iff.1 hoj).1 hji hF).2
      have h2 := wpOp_putC hoj (hfree j oj hoj hji hjun hnot) (fun cs b => hsel i oi cs b hi) (fun cs b => hsel j oj cs b hoj) hQ hy h1
      have hfree' : ∀ k ok, ops[k]? = some ok → k ≠ i → (listed.setIfInBounds j true).getD k true = false →
          (∀ e ∈ ok.after, Region.binds md e = true → e.on ≠ i) → oi.apart ops ok = true := fun k ok hk hki hun hno => by
        refine hfree k ok hk hki ?_ hno
        by_cases hjk : j = k
        · subst hjk; exact hjun
        · rw [getD_set_ne true hjk] at hun; exact hun
      refine wpOp_mono (fun a' w' h3 => ⟨fun _ => h3.2.1 hFj, ih (listed.setIfInBounds j true) a' w' (h3.2.1 hFj) (hcl.set hj) hfree' (ready_mono hr (Ne.symm hji)) h3.1 ?_⟩) h2
      rw [Array.setIfInBounds_comm _ _ hji]
      exact h3.2.2

/-- The walk: an operation that only reads what stays (true), or the only one that may come up (false). -/
def wpStab (P : Program) (l : List Oper) (C : World → Prop) (F : Nat → Bool) (Q : Exit → Act → World → Prop) : List (Nat × Bool) → Act → World → Prop
  | [], a, w => wpList P l.toArray Q [] a w
  | (i, true) :: π, a, w => ∃ o v, l[i]? = some o ∧ YieldsC P l.toArray C o v a ∧ wpStab P l C F Q π (a.put o.dst v) w
  | (i, false) :: π, a, w => ∃ o, l[i]? = some o ∧ wpList P l.toArray (Exit.then (fun a' w' => (F i = true → C w') ∧ wpStab P l C F Q π a' w') Q) [o] a w
theorem stab_yes {F : Nat → Bool} {l : List Oper} {i : Nat} {o : Oper} {π : List (Nat × Bool)} {a : Act} {w : World} (ho : l[i]? = some o)
    (h : ∀ K : Act → Prop, (∀ a', wpStab P l C F Q π a' w → K a') → Region.wanted o (yielded l.toArray a.tmps) = true ∧ ∃ v, (∀ W, C W → (execOp a.eval o).run P W = .ok (.value v) W) ∧ K (a.put o.dst v)) : wpStab P l C F Q ((i, true) :: π) a w := by
  obtain ⟨h1, v, h2, h3⟩ := h (fun a' => wpStab P l C F Q π a' w) (fun _ h => h)
  exact ⟨o, v, ho, .inl ⟨h1, h2⟩, h3⟩
theorem stab_call {F : Nat → Bool} {l : List Oper} {i : Nat} {o : Oper} {π : List (Nat × Bool)} {a : Act} {w : World} (ho : l[i]? = some o)
    (h : ∀ K : Act → Prop, (∀ a', wpStab P l C F Q π a' w → K a') → Region.wanted o (yielded l.toArray a.tmps) = true ∧ ∃ f args v, (∀ W, C W → (execOp a.eval o).run P W = .ok (.enter f args) W) ∧ (∀ W, C W → Calls P f args W (fun e w' => e = .returned v ∧ W = w')) ∧ K (a.put o.dst v)) : wpStab P l C F Q ((i, true) :: π) a w := by
  obtain ⟨h1, f, args, v, h2, h3, h4⟩ := h (fun a' => wpStab P l C F Q π a' w) (fun _ h => h)
  exact ⟨o, v, ho, .inr (.inr ⟨h1, f, args, h2, h3⟩), h4⟩
theorem stab_one {F : Nat → Bool} {l : List Oper} {i : Nat} {o : Oper} {π : List (Nat × Bool)} {a : Act} {w : World} (ho : l[i]? = some o)
    (h : ∀ K : Act → World → Prop, (∀ a' w', (F i = true → C w') ∧ wpStab P l C F Q π a' w' → K a' w') → wpList P l.toArray (Exit.then K Q) [o] a w) : wpStab P l C F Q ((i, false) :: π) a w :=
  ⟨o, ho, h _ (fun _ _ h => h)⟩
/-- The check: c says whether the world is in the class. -/
def stabB (md : Region.Mode) (ops : Array Oper) (F : Nat → Bool) : Bool → List (Nat × Bool) → Array Bool → Bool
  | _, [], listed => (Region.ready md ops listed).isEmpty
  | c, (i, true) :: π, listed => c && (Region.ready md ops listed).contains i && Region.free md ops listed i && behindB md ops F i && stabB md ops F c π (listed.setIfInBounds i true)
  | c, (i, false) :: π, listed => (Region.ready md ops listed == [i]) && stabB md ops F (c && F i) π (listed.setIfInBounds i true)
theorem wpAnyC_of_stab {F : Nat → Bool} {l : List Oper} (hsel : Region.noSelect l.toArray = true) (hQ : ∀ c a a' w, a.defers = a'.defers → Q (.panic c) a w → Q (.panic c) a' w) :
    ∀ (π : List (Nat × Bool)) (c : Bool) (listed : Array Bool) (a : Act) (w : World), (c = true → C w) → Closed md l.toArray listed → stabB md l.toArray F c π listed = true → wpStab P l C F Q π a w → wpAnyC P md l.toArray C F Q π.length listed a w
  | [], _, listed, a, w, _, _, hB, h => ⟨by simpa [stabB] using hB, h⟩
  | (i, true) :: π, c, listed, a, w, hC, hcl, hB, h => by
    obtain ⟨o, v, ho0, hy, hK⟩ := h
    have ho : l.toArray[i]? = some o := by simpa using ho0
    simp only [stabB, Bool.and_eq_true] at hB
    obtain ⟨⟨⟨⟨hc, hr⟩, hf⟩, hb⟩, hrest⟩ := hB
    have hr' : i ∈ Region.ready md l.toArray listed := by simpa using hr
    exact wpAnyC_first ho (Region.noSelect_spec hsel) (fun ch a w h => hQ ch _ _ w (by cases o.dst <;> rfl) h) hb π.length listed a w (hC hc) hcl (Region.free_spec ho hf) hr' hy
      (wpAnyC_of_stab hsel hQ π c _ _ _ hC (hcl.set hr') hrest hK)
  | (i, false) :: π, c, listed, a, w, hC, hcl, hB, h => by
    obtain ⟨o, ho0, hK⟩ := h
    have ho : l.toArray[i]? = some o := by simpa using ho0
    simp only [stabB, Bool.and_eq_true] at hB
    obtain ⟨hr, hrest⟩ := hB
    have hr1 : Region.ready md l.toArray listed = [i] := by simpa using hr
    have hr' : i ∈ Region.ready md l.toArray listed := by rw [hr1]; simp
    refine ⟨fun h0 => absurd h0 (by rw [hr1]; simp), fun j hj => ?_⟩
    obtain rfl : j = i := by rw [hr1] at hj; simpa using hj
    refine wpOp_mono (fun a' w' h' => ⟨h'.1, wpAnyC_of_stab hsel hQ π (c && F j) _ a' w' (fun hcf => ?_) (hcl.set hr') hrest h'.2⟩) (wpOp_of_one ho hK)
    rw [Bool.and_eq_true] at hcf
    exact h'.1 hcf.2
theorem wp_region_stab {id : Nat} {a : Act} {w : World} {l : List Oper} (C : World → Prop) (F : List Nat) (π : List (Nat × Bool)) (hm : P.follows .mixedOrders = true) (hQ : ∀ c a a' w, a.defers = a'.defers → Q (.panic c) a w → Q (.panic c) a' w)
    (hB : (Region.noSelect l.toArray && (π.length == l.length) && stabB .any l.toArray (fun i => F.contains i) true π (Array.replicate l.length false)) = true) (hC : C w.drew) (h : wpStab P l C (fun i => F.contains i) Q π a w.drew) : (Code.region id l.toArray true).wp P Q a w := by
  simp only [Bool.and_eq_true, beq_iff_eq] at hB
  obtain ⟨⟨hsel, hlen⟩, hst⟩ := hB
  refine wp_region_any hm (wpAny_of_C (C := C) (F := fun i => F.contains i) _ _ _ _ ?_)
  have h1 := wpAnyC_of_stab (P := P) (Q := Q) (C := C) (md := .any) hsel hQ π true (Array.replicate l.length false) a w.drew (fun _ => hC) (fun j oj _ hl => by rw [getD_replicate_false] at hl; cases hl) hst h
  rw [hlen] at h1
  have hsz : l.toArray.size = l.length := by simp
  rw [hsz]
  exact h1
end
/-- Two cells, and what they hold. -/
def Two (p : Addr) (v : Value) (q : Addr) (u : Value) (W : World) : Prop := W.cell? p = some v ∧ W.cell? q = some u
end Go.Proofs.YtfhmafncpodlbaaDoor

/-
  What a round of the document's own digest reckons. Conditions: none.
-/
namespace Go.Proofs.YtfhmafncpodlbaaDoor
open Go.RowKit
open Pol (co Sm)

theorem or24 (x y : Nat) (hy : y < 16777216) : x * 16777216 ||| y = x * 16777216 + y := by
  have h := Nat.two_pow_add_eq_or_of_lt (i := 24) (b := y) hy x
  rw [Nat.mul_comm x, ← show (2 : Nat) ^ 24 = 16777216 from rfl, ← h]
theorem or_word (x0 x1 x2 x3 : Nat) (h1 : x1 < 256) (h2 : x2 < 256) (h3 : x3 < 256) :
    x0 * 16777216 ||| x1 * 65536 = x0 * 16777216 + x1 * 65536 ∧ (x0 * 16777216 + x1 * 65536) ||| x2 * 256 = x0 * 16777216 + x1 * 65536 + x2 * 256 ∧ (x0 * 16777216 + x1 * 65536 + x2 * 256) ||| x3 = x0 * 16777216 + x1 * 65536 + x2 * 256 + x3 := by
  refine ⟨or24 x0 _ (by omega), ?_, ?_⟩
  · have h := Nat.two_pow_add_eq_or_of_lt (i := 16) (b := x2 * 256) (by omega) (x0 * 256 + x1)
    rw [show x0 * 16777216 + x1 * 65536 = 2 ^ 16 * (x0 * 256 + x1) by omega, ← h]
  · have h := Nat.two_pow_add_eq_or_of_lt (i := 8) (b := x3) (by omega) (x0 * 65536 + x1 * 256 + x2)
    rw [show x0 * 16777216 + x1 * 65536 + x2 * 256 = 2 ^ 8 * (x0 * 65536 + x1 * 256 + x2) by omega, ← h]
theorem NRd.fix {k : IntKind} {w : World} {b o : Nat} {l : List Nat} (h : NRd k w (some ⟨b, o, none⟩) l) (j : Nat) (hj : j < l.length) : w.cell? ⟨b, o + j, none⟩ = some (.int k ((co l j : Nat) : Int)) := by
  obtain ⟨b', o', e, hc⟩ := h j hj
  injection e with e
  injection e with e1 e2
  subst e1; subst e2
  exact hc
def AfterS (u w : World) : Prop := Ext u w
theorem word_lt {t : List Nat} (h : Sm t) (j : Nat) : word t j < 4294967296 := by
  have h0 := h j
  have h1 := h (j + 1)
  have h2 := h (j + 2)
  have h3 := h (j + 3)
  unfold word
  omega
set_option maxHeartbeats 1600000 in
/-- What a round reckons, all at once. -/
theorem round_prep {P : Prop} (Kv WL G S : List Nat) (i bs os bk ok bw ow : Nat) (wr : World) (hKW : W32 Kv) (hWW : W32 WL) (hSW : W32 S) (hSE : rds Kv WL G i = S)
    (hSC : ∀ W, AfterS wr W → ∀ j, j < 8 → W.cell? ⟨bs, os + j, none⟩ = some (.int .u32 ((co S j : Nat) : Int))) (hck : wr.cell? ⟨bk, ok + i, none⟩ = some (.int .u32 ((co Kv i : Nat) : Int))) (hcw : wr.cell? ⟨bw, ow + i, none⟩ = some (.int .u32 ((co WL i : Nat) : Int)))
    (h : ∀ (kk ww s0 s1 s2 s3 s4 s5 s6 s7 t6 t11 t25 t2 t13 t22 e1 e2 ne c1x c2x c3x d1x d2x m1x m2x m3x m4x m5x o1 o2 o3 o4 w2 n0 n4 : Nat), (Hid (∀ W, AfterS wr W → W.cell? ⟨bs, os, none⟩ = some (.int .u32 (s0 : Int)))) → (Hid (∀ W, AfterS wr W → W.cell? ⟨bs, os + 1, none⟩ = some (.int .u32 (s1 : Int)))) → (Hid (∀ W, AfterS wr W → W.cell? ⟨bs, os + 2, none⟩ = some (.int .u32 (s2 : Int)))) → (Hid (∀ W, AfterS wr W → W.cell? ⟨bs, os + 3, none⟩ = some (.int .u32 (s3 : Int)))) → (Hid (∀ W, AfterS wr W → W.cell? ⟨bs, os + 4, none⟩ = some (.int .u32 (s4 : Int)))) → (Hid (∀ W, AfterS wr W → W.cell? ⟨bs, os + 5, none⟩ = some (.int .u32 (s5 : Int)))) → (Hid (∀ W, AfterS wr W → W.cell? ⟨bs, os + 6, none⟩ = some (.int .u32 (s6 : Int)))) → (wr.cell? ⟨bs, os, none⟩ = some (.int .u32 (s0 : Int))) → (wr.cell? ⟨bs, os + 4, none⟩ = some (.int .u32 (s4 : Int))) → (wr.cell? ⟨bs, os + 5, none⟩ = some (.int .u32 (s5 : Int))) → (wr.cell? ⟨bs, os + 6, none⟩ = some (.int .u32 (s6 : Int))) → (wr.cell? ⟨bs, os + 7, none⟩ = some (.int .u32 (s7 : Int))) → (wr.cell? ⟨bk, ok + i, none⟩ = some (.int .u32 (kk : Int))) → (wr.cell? ⟨bw, ow + i, none⟩ = some (.int .u32 (ww : Int))) → (Hid (∀ W, Calls Tryd.prog 25 #[.int .u32 (s4 : Int), .int .u64 6] W (fun e w' => e = .returned (.int .u32 (t6 : Int)) ∧ W = w'))) → (Hid (∀ W, Calls Tryd.prog 25 #[.int .u32 (s4 : Int), .int .u64 11] W (fun e w' => e = .returned (.int .u32 (t11 : Int)) ∧ W = w'))) → (Hid (∀ W, Calls Tryd.prog 25 #[.int .u32 (s4 : Int), .int .u64 25] W (fun e w' => e = .returned (.int .u32 (t25 : Int)) ∧ W = w'))) → (Hid (∀ W, Calls Tryd.prog 25 #[.int .u32 (s0 : Int), .int .u64 2] W (fun e w' => e = .returned (.int .u32 (t2 : Int)) ∧ W = w'))) → (Hid (∀ W, Calls Tryd.prog 25 #[.int .u32 (s0 : Int), .int .u64 13] W (fun e w' => e = .returned (.int .u32 (t13 : Int)) ∧ W = w'))) → (Hid (∀ W, Calls Tryd.prog 25 #[.int .u32 (s0 : Int), .int .u64 22] W (fun e w' => e = .returned (.int .u32 (t22 : Int)) ∧ W = w'))) → (bits .xor .u32 (t6 : Int) (t11 : Int) = (e1 : Int)) → (bits .xor .u32 (e1 : Int) (t25 : Int) = (e2 : Int)) → (bits .and .u32 (s4 : Int) (s5 : Int) = (c1x : Int)) → (bits .and .u32 (ne : Int) (s6 : Int) = (c2x : Int)) → (bits .xor .u32 (c1x : Int) (c2x : Int) = (c3x : Int)) → (bits .xor .u32 (t2 : Int) (t13 : Int) = (d1x : Int)) → (bits .xor .u32 (d1x : Int) (t22 : Int) = (d2x : Int)) → (bits .and .u32 (s0 : Int) (s1 : Int) = (m1x : Int)) → (bits .and .u32 (s0 : Int) (s2 : Int) = (m2x : Int)) → (bits .xor .u32 (m1x : Int) (m2x : Int) = (m3x : Int)) → (bits .and .u32 (s1 : Int) (s2 : Int) = (m4x : Int)) → (bits .xor .u32 (m3x : Int) (m4x : Int) = (m5x : Int)) → (IntKind.u32.wrap (4294967295 - (s4 : Int)) = (ne : Int)) → (IntKind.u32.wrap ((s7 : Int) + (e2 : Int)) = (o1 : Int)) → (IntKind.u32.wrap ((o1 : Int) + (c3x : Int)) = (o2 : Int)) → (IntKind.u32.wrap ((o2 : Int) + (kk : Int)) = (o3 : Int)) → (IntKind.u32.wrap ((o3 : Int) + (ww : Int)) = (o4 : Int)) → (IntKind.u32.wrap ((d2x : Int) + (m5x : Int)) = (w2 : Int)) → (IntKind.u32.wrap ((o4 : Int) + (w2 : Int)) = (n0 : Int)) → (IntKind.u32.wrap ((s3 : Int) + (o4 : Int)) = (n4 : Int)) → (Hid (Unit → rds Kv WL G (i + 1) = [n0, s0, s1, s2, n4, s4, s5, s6])) → P) : P := by
  have hRN : rds Kv WL G (i + 1) = rnd (co Kv i) (co WL i) S := by rw [rds, hSE]
  have hk32 := hKW.at i
  have hw32 := hWW.at i
  have hb0 := hSW.at 0
  have hb1 := hSW.at 1
  have hb2 := hSW.at 2
  have hb3 := hSW.at 3
  have hb4 := hSW.at 4
  have hb5 := hSW.at 5
  have hb6 := hSW.at 6
  have hb7 := hSW.at 7
  have HON := Lib.hid (fun (_ : Unit) => (show one (co Kv i) (co WL i) S = (co S 7 + (tw (co S 4) 6 ^^^ tw (co S 4) 11 ^^^ tw (co S 4) 25) + ((co S 4 &&& co S 5) ^^^ ((4294967295 - co S 4) &&& co S 6)) + co Kv i + co WL i) % 4294967296 from rfl))
  have HTW := Lib.hid (fun (_ : Unit) => (show two S = ((tw (co S 0) 2 ^^^ tw (co S 0) 13 ^^^ tw (co S 0) 22) + ((co S 0 &&& co S 1) ^^^ (co S 0 &&& co S 2) ^^^ (co S 1 &&& co S 2))) % 4294967296 from rfl))
  have HRD := Lib.hid (fun (_ : Unit) => (show rnd (co Kv i) (co WL i) S = [(one (co Kv i) (co WL i) S + two S) % 4294967296, co S 0, co S 1, co S 2, (co S 3 + one (co Kv i) (co WL i) S) % 4294967296, co S 4, co S 5, co S 6] from rfl))
  obtain ⟨kk, hkk⟩ : ∃ q, co Kv i = q := ⟨_, rfl⟩
  obtain ⟨ww, hww⟩ : ∃ q, co WL i = q := ⟨_, rfl⟩
  rw [hkk] at hck hk32 HON HRD hRN
  rw [hww] at hcw hw32 HON HRD hRN
  obtain ⟨s0, hs0⟩ : ∃ q, co S 0 = q := ⟨_, rfl⟩
  rw [hs0] at hb0 HTW HRD
  obtain ⟨s1, hs1⟩ : ∃ q, co S 1 = q := ⟨_, rfl⟩
  rw [hs1] at hb1 HTW HRD
  obtain ⟨s2, hs2⟩ : ∃ q, co S 2 = q := ⟨_, rfl⟩
  rw [hs2] at hb2 HTW HRD
  obtain ⟨s3, hs3⟩ : ∃ q, co S 3 = q := ⟨_, rfl⟩
  rw [hs3] at hb3 HRD
  obtain ⟨s4, hs4⟩ : ∃ q, co S 4 = q := ⟨_, rfl⟩
  rw [hs4] at hb4 HON HRD
  obtain ⟨s5, hs5⟩ : ∃ q, co S 5 = q := ⟨_, rfl⟩
  rw [hs5] at hb5 HON HRD
  obtain ⟨s6, hs6⟩ : ∃ q, co S 6 = q := ⟨_, rfl⟩
  rw [hs6] at hb6 HON HRD
  obtain ⟨s7, hs7⟩ : ∃ q, co S 7 = q := ⟨_, rfl⟩
  rw [hs7] at hb7 HON
  have HC0 := Lib.hid (show ∀ W, AfterS wr W → W.cell? ⟨bs, os, none⟩ = some (.int .u32 (s0 : Int)) from fun W hW => by have h := hSC W hW 0 (by decide); rw [hs0] at h; exact h)
  have HC1 := Lib.hid (show ∀ W, AfterS wr W → W.cell? ⟨bs, os + 1, none⟩ = some (.int .u32 (s1 : Int)) from fun W hW => by have h := hSC W hW 1 (by decide); rw [hs1] at h; exact h)
  have HC2 := Lib.hid (show ∀ W, AfterS wr W → W.cell? ⟨bs, os + 2, none⟩ = some (.int .u32 (s2 : Int)) from fun W hW => by have h := hSC W hW 2 (by decide); rw [hs2] at h; exact h)
  have HC3 := Lib.hid (show ∀ W, AfterS wr W → W.cell? ⟨bs, os + 3, none⟩ = some (.int .u32 (s3 : Int)) from fun W hW => by have h := hSC W hW 3 (by decide); rw [hs3] at h; exact h)
  have HC4 := Lib.hid (show ∀ W, AfterS wr W → W.cell? ⟨bs, os + 4, none⟩ = some (.int .u32 (s4 : Int)) from fun W hW => by have h := hSC W hW 4 (by decide); rw [hs4] at h; exact h)
  have HC5 := Lib.hid (show ∀ W, AfterS wr W → W.cell? ⟨bs, os + 5, none⟩ = some (.int .u32 (s5 : Int)) from fun W hW => by have h := hSC W hW 5 (by decide); rw [hs5] at h; exact h)
  have HC6 := Lib.hid (show ∀ W, AfterS wr W → W.cell? ⟨bs, os + 6, none⟩ = some (.int .u32 (s6 : Int)) from fun W hW => by have h := hSC W hW 6 (by decide); rw [hs6] at h; exact h)
  have HC7 := Lib.hid (show ∀ W, AfterS wr W → W.cell? ⟨bs, os + 7, none⟩ = some (.int .u32 (s7 : Int)) from fun W hW => by have h := hSC W hW 7 (by decide); rw [hs7] at h; exact h)
  have HT6 := Lib.hid (fun W => show Calls Tryd.prog 25 #[.int .u32 (s4 : Int), .int .u64 6] W (fun e w' => e = .returned (.int .u32 ((tw s4 6 : Nat) : Int)) ∧ W = w') from ref10_turn s4 6 W hb4 (by decide))
  have lt6 := tw_lt (n := 6) hb4
  obtain ⟨t6, ht6⟩ : ∃ q, tw s4 6 = q := ⟨_, rfl⟩
  rw [ht6] at HT6 lt6 HON
  have HT11 := Lib.hid (fun W => show Calls Tryd.prog 25 #[.int .u32 (s4 : Int), .int .u64 11] W (fun e w' => e = .returned (.int .u32 ((tw s4 11 : Nat) : Int)) ∧ W = w') from ref10_turn s4 11 W hb4 (by decide))
  have lt11 := tw_lt (n := 11) hb4
  obtain ⟨t11, ht11⟩ : ∃ q, tw s4 11 = q := ⟨_, rfl⟩
  rw [ht11] at HT11 lt11 HON
  have HT25 := Lib.hid (fun W => show Calls Tryd.prog 25 #[.int .u32 (s4 : Int), .int .u64 25] W (fun e w' => e = .returned (.int .u32 ((tw s4 25 : Nat) : Int)) ∧ W = w') from ref10_turn s4 25 W hb4 (by decide))
  have lt25 := tw_lt (n := 25) hb4
  obtain ⟨t25, ht25⟩ : ∃ q, tw s4 25 = q := ⟨_, rfl⟩
  rw [ht25] at HT25 lt25 HON
  have HT2 := Lib.hid (fun W => show Calls Tryd.prog 25 #[.int .u32 (s0 : Int), .int .u64 2] W (fun e w' => e = .returned (.int .u32 ((tw s0 2 : Nat) : Int)) ∧ W = w') from ref10_turn s0 2 W hb0 (by decide))
  have lt2 := tw_lt (n := 2) hb0
  obtain ⟨t2, ht2⟩ : ∃ q, tw s0 2 = q := ⟨_, rfl⟩
  rw [ht2] at HT2 lt2 HTW
  have HT13 := Lib.hid (fun W => show Calls Tryd.prog 25 #[.int .u32 (s0 : Int), .int .u64 13] W (fun e w' => e = .returned (.int .u32 ((tw s0 13 : Nat) : Int)) ∧ W = w') from ref10_turn s0 13 W hb0 (by decide))
  have lt13 := tw_lt (n := 13) hb0
  obtain ⟨t13, ht13⟩ : ∃ q, tw s0 13 = q := ⟨_, rfl⟩
  rw [ht13] at HT13 lt13 HTW
  have HT22 := Lib.hid (fun W => show Calls Tryd.prog 25 #[.int .u32 (s0 : Int), .int .u64 22] W (fun e w' => e = .returned (.int .u32 ((tw s0 22 : Nat) : Int)) ∧ W = w') from ref10_turn s0 22 W hb0 (by decide))
  have lt22 := tw_lt (n := 22) hb0
  obtain ⟨t22, ht22⟩ : ∃ q, tw s0 22 = q := ⟨_, rfl⟩
  rw [ht22] at HT22 lt22 HTW
  obtain ⟨e1, he1⟩ : ∃ q, t6 ^^^ t11 = q := ⟨_, rfl⟩
  have le1 : e1 < 4294967296 := by rw [← he1]; exact Nat.xor_lt_two_pow (n := 32) lt6 lt11
  have qe1 : bits .xor .u32 (t6 : Int) (t11 : Int) = (e1 : Int) := by rw [← he1]; exact u32_xor_nat t6 t11 lt6 lt11
  rw [he1] at HON
  obtain ⟨e2, he2⟩ : ∃ q, e1 ^^^ t25 = q := ⟨_, rfl⟩
  have le2 : e2 < 4294967296 := by rw [← he2]; exact Nat.xor_lt_two_pow (n := 32) le1 lt25
  have qe2 : bits .xor .u32 (e1 : Int) (t25 : Int) = (e2 : Int) := by rw [← he2]; exact u32_xor_nat e1 t25 le1 lt25
  rw [he2] at HON
  obtain ⟨ne, hne⟩ : ∃ q, 4294967295 - s4 = q := ⟨_, rfl⟩
  have lne : ne < 4294967296 := by omega
  have qne : IntKind.u32.wrap (4294967295 - (s4 : Int)) = (ne : Int) := by rw [IntKind.wrap_u32]; omega
  rw [hne] at HON
  obtain ⟨c1x, hc1x⟩ : ∃ q, s4 &&& s5 = q := ⟨_, rfl⟩
  have lc1x : c1x < 4294967296 := by rw [← hc1x]; exact Nat.lt_of_le_of_lt Nat.and_le_left hb4
  have qc1x : bits .and .u32 (s4 : Int) (s5 : Int) = (c1x : Int) := by rw [← hc1x]; exact u32_and_nat s4 s5 hb4 hb5
  rw [hc1x] at HON
  obtain ⟨c2x, hc2x⟩ : ∃ q, ne &&& s6 = q := ⟨_, rfl⟩
  have lc2x : c2x < 4294967296 := by rw [← hc2x]; exact Nat.lt_of_le_of_lt Nat.and_le_left lne
  have qc2x : bits .and .u32 (ne : Int) (s6 : Int) = (c2x : Int) := by rw [← hc2x]; exact u32_and_nat ne s6 lne hb6
  rw [hc2x] at HON
  obtain ⟨c3x, hc3x⟩ : ∃ q, c1x ^^^ c2x = q := ⟨_, rfl⟩
  have lc3x : c3x < 4294967296 := by rw [← hc3x]; exact Nat.xor_lt_two_pow (n := 32) lc1x lc2x
  have qc3x : bits .xor .u32 (c1x : Int) (c2x : Int) = (c3x : Int) := by rw [← hc3x]; exact u32_xor_nat c1x c2x lc1x lc2x
  rw [hc3x] at HON
  obtain ⟨d1x, hd1x⟩ : ∃ q, t2 ^^^ t13 = q := ⟨_, rfl⟩
  have ld1x : d1x < 4294967296 := by rw [← hd1x]; exact Nat.xor_lt_two_pow (n := 32) lt2 lt13
  have qd1x : bits .xor .u32 (t2 : Int) (t13 : Int) = (d1x : Int) := by rw [← hd1x]; exact u32_xor_nat t2 t13 lt2 lt13
  rw [hd1x] at HTW
  obtain ⟨d2x, hd2x⟩ : ∃ q, d1x ^^^ t22 = q := ⟨_, rfl⟩
  have ld2x : d2x < 4294967296 := by rw [← hd2x]; exact Nat.xor_lt_two_pow (n := 32) ld1x lt22
  have qd2x : bits .xor .u32 (d1x : Int) (t22 : Int) = (d2x : Int) := by rw [← hd2x]; exact u32_xor_nat d1x t22 ld1x lt22
  rw [hd2x] at HTW
  obtain ⟨m1x, hm1x⟩ : ∃ q, s0 &&& s1 = q := ⟨_, rfl⟩
  have lm1x : m1x < 4294967296 := by rw [← hm1x]; exact Nat.lt_of_le_of_lt Nat.and_le_left hb0
  have qm1x : bits .and .u32 (s0 : Int) (s1 : Int) = (m1x : Int) := by rw [← hm1x]; exact u32_and_nat s0 s1 hb0 hb1
  rw [hm1x] at HTW
  obtain ⟨m2x, hm2x⟩ : ∃ q, s0 &&& s2 = q := ⟨_, rfl⟩
  have lm2x : m2x < 4294967296 := by rw [← hm2x]; exact Nat.lt_of_le_of_lt Nat.and_le_left hb0
  have qm2x : bits .and .u32 (s0 : Int) (s2 : Int) = (m2x : Int) := by rw [← hm2x]; exact u32_and_nat s0 s2 hb0 hb2
  rw [hm2x] at HTW
  obtain ⟨m3x, hm3x⟩ : ∃ q, m1x ^^^ m2x = q := ⟨_, rfl⟩
  have lm3x : m3x < 4294967296 := by rw [← hm3x]; exact Nat.xor_lt_two_pow (n := 32) lm1x lm2x
  have qm3x : bits .xor .u32 (m1x : Int) (m2x : Int) = (m3x : Int) := by rw [← hm3x]; exact u32_xor_nat m1x m2x lm1x lm2x
  rw [hm3x] at HTW
  obtain ⟨m4x, hm4x⟩ : ∃ q, s1 &&& s2 = q := ⟨_, rfl⟩
  have lm4x : m4x < 4294967296 := by rw [← hm4x]; exact Nat.lt_of_le_of_lt Nat.and_le_left hb1
  have qm4x : bits .and .u32 (s1 : Int) (s2 : Int) = (m4x : Int) := by rw [← hm4x]; exact u32_and_nat s1 s2 hb1 hb2
  rw [hm4x] at HTW
  obtain ⟨m5x, hm5x⟩ : ∃ q, m3x ^^^ m4x = q := ⟨_, rfl⟩
  have lm5x : m5x < 4294967296 := by rw [← hm5x]; exact Nat.xor_lt_two_pow (n := 32) lm3x lm4x
  have qm5x : bits .xor .u32 (m3x : Int) (m4x : Int) = (m5x : Int) := by rw [← hm5x]; exact u32_xor_nat m3x m4x lm3x lm4x
  rw [hm5x] at HTW
  obtain ⟨o1, ho1⟩ : ∃ q, (s7 + e2) % 4294967296 = q := ⟨_, rfl⟩
  have qo1 : IntKind.u32.wrap ((s7 : Int) + (e2 : Int)) = (o1 : Int) := by rw [IntKind.wrap_u32]; omega
  obtain ⟨o2, ho2⟩ : ∃ q, (o1 + c3x) % 4294967296 = q := ⟨_, rfl⟩
  have qo2 : IntKind.u32.wrap ((o1 : Int) + (c3x : Int)) = (o2 : Int) := by rw [IntKind.wrap_u32]; omega
  obtain ⟨o3, ho3⟩ : ∃ q, (o2 + kk) % 4294967296 = q := ⟨_, rfl⟩
  have qo3 : IntKind.u32.wrap ((o2 : Int) + (kk : Int)) = (o3 : Int) := by rw [IntKind.wrap_u32]; omega
  obtain ⟨o4, ho4⟩ : ∃ q, (o3 + ww) % 4294967296 = q := ⟨_, rfl⟩
  have qo4 : IntKind.u32.wrap ((o3 : Int) + (ww : Int)) = (o4 : Int) := by rw [IntKind.wrap_u32]; omega
  obtain ⟨w2, hw2⟩ : ∃ q, (d2x + m5x) % 4294967296 = q := ⟨_, rfl⟩
  have qw2 : IntKind.u32.wrap ((d2x : Int) + (m5x : Int)) = (w2 : Int) := by rw [IntKind.wrap_u32]; omega
  obtain ⟨n0, hn0⟩ : ∃ q, (o4 + w2) % 4294967296 = q := ⟨_, rfl⟩
  have qn0 : IntKind.u32.wrap ((o4 : Int) + (w2 : Int)) = (n0 : Int) := by rw [IntKind.wrap_u32]; omega
  obtain ⟨n4, hn4⟩ : ∃ q, (s3 + o4) % 4294967296 = q := ⟨_, rfl⟩
  have qn4 : IntKind.u32.wrap ((s3 : Int) + (o4 : Int)) = (n4 : Int) := by rw [IntKind.wrap_u32]; omega
  have HO4 := Lib.hid (fun (_ : Unit) => (show one kk ww S = o4 from by rw [(HON.out ())]; omega))
  have HW2 := Lib.hid (fun (_ : Unit) => (show two S = w2 from by rw [(HTW.out ()), hw2]))
  have HNW := Lib.hid (fun (_ : Unit) => (show rds Kv WL G (i + 1) = [n0, s0, s1, s2, n4, s4, s5, s6] from by rw [hRN, (HRD.out ()), (HO4.out ()), (HW2.out ()), hn0, hn4]))
  exact h kk ww s0 s1 s2 s3 s4 s5 s6 s7 t6 t11 t25 t2 t13 t22 e1 e2 ne c1x c2x c3x d1x d2x m1x m2x m3x m4x m5x o1 o2 o3 o4 w2 n0 n4 HC0 HC1 HC2 HC3 HC4 HC5 HC6 (HC0.out wr (Ext.refl wr)) (HC4.out wr (Ext.refl wr)) (HC5.out wr (Ext.refl wr)) (HC6.out wr (Ext.refl wr)) (HC7.out wr (Ext.refl wr)) hck hcw HT6 HT11 HT25 HT2 HT13 HT22 qe1 qe2 qc1x qc2x qc3x qd1x qd2x qm1x qm2x qm3x qm4x qm5x qne qo1 qo2 qo3 qo4 qw2 qn0 qn4 HNW
end Go.Proofs.YtfhmafncpodlbaaDoor

/-
  A slice literal of eight numbers of 32 bits, in one step. Conditions: none.
-/
namespace Go.Proofs.YtfhmafncpodlbaaDoor
open Go.RowKit

theorem fill8 (v0 v1 v2 v3 v4 v5 v6 v7 : Value) (h0 : v0.cells = #[v0]) (h1 : v1.cells = #[v1]) (h2 : v2.cells = #[v2]) (h3 : v3.cells = #[v3]) (h4 : v4.cells = #[v4]) (h5 : v5.cells = #[v5]) (h6 : v6.cells = #[v6]) (h7 : v7.cells = #[v7]) (z : Value) :
    Instr.fill (fun i => some (i * 1, 1)) ((Array.range (8 * 1)).map (z.cells[· % z.cells.size]!)) [(0, v0), (1, v1), (2, v2), (3, v3), (4, v4), (5, v5), (6, v6), (7, v7)] = some #[v0, v1, v2, v3, v4, v5, v6, v7] := by
  exact Great.fill_flat [v0, v1, v2, v3, v4, v5, v6, v7] _ (fun v hv => by
    simp only [List.mem_cons, List.not_mem_nil, or_false] at hv
    rcases hv with rfl | rfl | rfl | rfl | rfl | rfl | rfl | rfl <;> assumption) (by simp)
theorem run_build8 (n0 n1 n2 n3 n4 n5 n6 n7 : Nat) (w : World) :
    (Instr.buildSlice 44 8 #[(0, .int .u32 (n0 : Int)), (1, .int .u32 (n1 : Int)), (2, .int .u32 (n2 : Int)), (3, .int .u32 (n3 : Int)), (4, .int .u32 (n4 : Int)), (5, .int .u32 (n5 : Int)), (6, .int .u32 (n6 : Int)), (7, .int .u32 (n7 : Int))]).run Tryd.prog w =
      .ok (.slice (some ⟨w.heap.size, 0, none⟩) 8 8) (w.alloc (.cells #[.int .u32 (n0 : Int), .int .u32 (n1 : Int), .int .u32 (n2 : Int), .int .u32 (n3 : Int), .int .u32 (n4 : Int), .int .u32 (n5 : Int), .int .u32 (n6 : Int), .int .u32 (n7 : Int)] 38)) := by
  have hs : (Tryd.prog.info? 38).map (·.size) = some 1 := by kernel_rfl
  have hz : ((Tryd.prog.info? 38).bind (·.zero)).isSome = true := by kernel_rfl
  cases hie : Tryd.prog.info? 38 with
  | none => simp [hie] at hs
  | some ie =>
    simp only [hie, Option.map_some, Option.some.injEq, Option.bind_some] at hs hz
    obtain ⟨z, hzz⟩ := Option.isSome_iff_exists.1 hz
    refine run_buildSlice w 44 38 8 _ _ ie z Tryd.underlying44 hie hzz (by rw [hs]; decide) (by rw [hs]; decide) ?_
    rw [hs]
    exact fill8 _ _ _ _ _ _ _ _ rfl rfl rfl rfl rfl rfl rfl rfl z
theorem wpList_build8 {ops : Array Oper} {rest : List Oper} {o : Oper} {a : Act} {w : World} {Q : Exit → Act → World → Prop} (hg : o.guard = none) (x0 x1 x2 x3 x4 x5 x6 x7 : Operand)
    (ho : o.op = .buildSlice 44 8 #[(0, x0), (1, x1), (2, x2), (3, x3), (4, x4), (5, x5), (6, x6), (7, x7)]) (n0 n1 n2 n3 n4 n5 n6 n7 : Nat)
    (h0 : a.eval x0 = .int .u32 (n0 : Int)) (h1 : a.eval x1 = .int .u32 (n1 : Int)) (h2 : a.eval x2 = .int .u32 (n2 : Int)) (h3 : a.eval x3 = .int .u32 (n3 : Int)) (h4 : a.eval x4 = .int .u32 (n4 : Int)) (h5 : a.eval x5 = .int .u32 (n5 : Int)) (h6 : a.eval x6 = .int .u32 (n6 : Int)) (h7 : a.eval x7 = .int .u32 (n7 : Int))
    (h : wpList Tryd.prog ops Q rest (a.put o.dst (.slice (some ⟨w.heap.size, 0, none⟩) 8 8)) (w.alloc (.cells #[.int .u32 (n0 : Int), .int .u32 (n1 : Int), .int .u32 (n2 : Int), .int .u32 (n3 : Int), .int .u32 (n4 : Int), .int .u32 (n5 : Int), .int .u32 (n6 : Int), .int .u32 (n7 : Int)] 38))) : wpList Tryd.prog ops Q (o :: rest) a w :=
  wpList_plain hg fun K hK => by
    unfold Oper.wp execOp
    have e : (#[(0, x0), (1, x1), (2, x2), (3, x3), (4, x4), (5, x5), (6, x6), (7, x7)] : Array (Nat × Operand)).map (fun (i, x) => (i, a.eval x)) = #[(0, .int .u32 (n0 : Int)), (1, .int .u32 (n1 : Int)), (2, .int .u32 (n2 : Int)), (3, .int .u32 (n3 : Int)), (4, .int .u32 (n4 : Int)), (5, .int .u32 (n5 : Int)), (6, .int .u32 (n6 : Int)), (7, .int .u32 (n7 : Int))] := by
      simp [h0, h1, h2, h3, h4, h5, h6, h7]
    simp only [ho, Sem.run_bind, e, run_build8, Result.andThen_ok]
    exact hK _ _ h
end Go.Proofs.YtfhmafncpodlbaaDoor

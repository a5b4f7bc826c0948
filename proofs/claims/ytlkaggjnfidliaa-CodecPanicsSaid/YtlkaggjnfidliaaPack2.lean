/-
  Part 2 of the texts that the seat's proofs stand on; each part of it begins with its own sentence and conditions. Conditions: those that each theorem names.
-/
import Derived.Test.YtlkaggjnfidliaaPack1
import Derived.StillTail
import Derived.DeepKeys

/-
  A region that draws its order, some of whose operations only read what stays: these may be taken ahead of the others, and the others come one after the other. Conditions: a check of the region's text (by the kernel); of no program in particular.
-/
namespace Go.Proofs.Ytlkaggjnfidliaa
open Go

section
variable {P : Program} {ops : Array Oper} {Q : Exit → Act → World → Prop} {md : Region.Mode} {C : World → Prop}

/-- In every world of the class the operation yields v and leaves the world alone. -/
def YieldsC (P : Program) (ops : Array Oper) (C : World → Prop) (o : Oper) (v : Value) (a : Act) : Prop :=
  (Region.wanted o (yielded ops a.tmps) = true ∧ ∀ w, C w → (execOp a.eval o).run P w = .ok (.value v) w) ∨ (Region.wanted o (yielded ops a.tmps) = false ∧ v = undef)
theorem YieldsC.wpOp {i : Nat} {o : Oper} {v : Value} {a : Act} (hi : ops[i]? = some o) (hy : YieldsC P ops C o v a) {K : Act → World → Prop} {w : World} (hw : C w) (h : K (a.put o.dst v) w) : wpOp P ops Q i K a w := by
  unfold Go.wpOp
  simp only [hi]
  rcases hy with ⟨hg, hv⟩ | ⟨hg, rfl⟩
  · simp only [hg, if_true, Oper.wp, hv w hw, Oper.upon]; exact .inl h
  · simp only [hg, Bool.false_eq_true, if_false]; exact h
theorem YieldsC.of_same {o : Oper} {v : Value} {a a' : Act} (hy : YieldsC P ops C o v a) (he : execOp a'.eval o = execOp a.eval o) (hw : Region.wanted o (yielded ops a'.tmps) = Region.wanted o (yielded ops a.tmps)) : YieldsC P ops C o v a' := by
  unfold YieldsC at *
  rw [he, hw]
  exact hy
theorem wpOp_putC {j : Nat} {oi oj : Oper} {v : Value} (hj : ops[j]? = some oj) (hap : oi.apart ops oj = true) (hsi : ∀ cs b, oi.op ≠ .select cs b) (hsj : ∀ cs b, oj.op ≠ .select cs b)
    (hQ : ∀ c a w, Q (.panic c) (a.put oi.dst v) w → Q (.panic c) a w) {K : Act → World → Prop} {a : Act} {w : World} (hy : YieldsC P ops C oi v a) (h : wpOp P ops Q j K (a.put oi.dst v) w) :
    wpOp P ops Q j (fun a' w' => YieldsC P ops C oi v a' ∧ K (a'.put oi.dst v) w') a w := by
  obtain ⟨h1, h2, h3⟩ := Oper.apart_spec hap
  have keep : ∀ (a : Act), YieldsC P ops C oi v a → ∀ u, YieldsC P ops C oi v (a.put oj.dst u) := fun a hy u => hy.of_same (execOp_put oi hsi a oj.dst u h3) (wanted_put oi a oj.dst u h3)
  have keepD : ∀ d, YieldsC P ops C oi v { a with defers := d :: a.defers } := fun d => hy.of_same rfl rfl
  unfold wpOp at *
  simp only [hj] at *
  rw [wanted_put oj a oi.dst v h1] at h
  split
  · rename_i hw
    simp only [hw, if_true] at h
    rcases h with h | ⟨hasks, hlets⟩
    case inr => exact .inr ⟨by unfold Oper.asks at *; rw [execOp_put oj hsj a oi.dst v h1] at hasks; exact hasks, hlets⟩
    refine .inl ?_
    unfold Oper.wp at *
    rw [execOp_put oj hsj a oi.dst v h1] at h
    generalize (execOp a.eval oj).run P w = r at *
    cases r with
    | ok n w' =>
      cases n <;> simp only [Oper.upon] at h ⊢
      case value u => exact ⟨keep a hy u, by rw [← Act.put_comm a v u h2]; exact h⟩
      case skip => exact ⟨keep a hy _, by rw [← Act.put_comm a v undef h2]; exact h⟩
      case defer d =>
        refine ⟨keep _ (keepD d) _, ?_⟩
        rw [← Act.put_comm _ v undef h2, ← Act.put_defers]
        exact h
      case enter f args =>
        refine Calls.mono h fun e w'' he => ?_
        cases e with
        | returned u => exact ⟨keep a hy u, by rw [← Act.put_comm a v u h2]; exact he⟩
        | panicked c => exact hQ _ _ _ he
        | outgrown => exact he
      case row row args => exact Rows.mono h fun u w'' he => ⟨keep a hy u, by rw [← Act.put_comm a v u h2]; exact he⟩
    | halt x w' =>
      cases x <;> simp only [Oper.upon] at h ⊢
      case panic u => exact hQ _ _ _ h
  · rename_i hw
    simp only [hw] at h
    exact ⟨keep a hy _, by rw [← Act.put_comm a v undef h2]; exact h⟩

/-- As wpAny, and the operations of F leave the world in the class. -/
def wpAnyC (P : Program) (md : Region.Mode) (ops : Array Oper) (C : World → Prop) (F : Nat → Bool) (Q : Exit → Act → World → Prop) : Nat → Array Bool → Act → World → Prop
  | 0, listed, a, w => Region.ready md ops listed = [] ∧ Q .normal a w
  | fuel + 1, listed, a, w => (Region.ready md ops listed = [] → Q .normal a w) ∧ ∀ i ∈ Region.ready md ops listed, wpOp P ops Q i (fun a' w' => (F i = true → C w') ∧ wpAnyC P md ops C F Q fuel (listed.setIfInBounds i true) a' w') a w
theorem wpAny_of_C {F : Nat → Bool} : ∀ (fuel : Nat) (listed : Array Bool) (a : Act) (w : World), wpAnyC P md ops C F Q fuel listed a w → wpAny P md ops Q fuel listed a w
  | 0, _, _, _, h => h
  | fuel + 1, _, _, _, h => ⟨h.1, fun i hi => wpOp_mono (fun a' w' h' => wpAny_of_C fuel _ a' w' h'.2) (h.2 i hi)⟩
/-- What is listed waits for nothing that is not. -/
def Closed (md : Region.Mode) (ops : Array Oper) (listed : Array Bool) : Prop := ∀ j oj, ops[j]? = some oj → listed.getD j false = true → ∀ e ∈ oj.after, Region.binds md e = true → listed.getD e.on false = true
theorem Closed.set {listed : Array Bool} (h : Closed md ops listed) {i : Nat} (hi : i ∈ Region.ready md ops listed) : Closed md ops (listed.setIfInBounds i true) := fun j oj hoj hl e he hb => by
  by_cases hji : j = i
  · subst hji
    obtain ⟨_, o, ho, hall⟩ := mem_ready.1 hi
    rw [hoj] at ho
    injection ho with ho
    subst ho
    exact getD_set_true (hall e he hb)
  · rw [getD_set_ne false (fun h => hji h.symm)] at hl
    exact getD_set_true (h j oj hoj hl e he hb)
/-- What stands behind i; what is not of F does. -/
def bhStep (md : Region.Mode) (ops : Array Oper) (i : Nat) (acc : List Nat) (j : Nat) : List Nat :=
  match ops[j]? with
  | some oj => if oj.after.any (fun e => Region.binds md e && (e.on == i || acc.contains e.on)) then j :: acc else acc
  | none => acc
def behindB (md : Region.Mode) (ops : Array Oper) (F : Nat → Bool) (i : Nat) : Bool :=
  (List.range ops.size).all fun j => j == i || F j || ((List.range ops.size).foldl (bhStep md ops i) []).contains j
theorem bh_fold {i : Nat} {listed : Array Bool} (hc : Closed md ops listed) (hi : listed.getD i false = false) : ∀ (l acc : List Nat), (∀ j ∈ acc, listed.getD j false = false ∧ j ∉ Region.ready md ops listed) →
    ∀ j ∈ l.foldl (bhStep md ops i) acc, listed.getD j false = false ∧ j ∉ Region.ready md ops listed
  | [], acc, h => h
  | k :: l, acc, h => by
    refine bh_fold hc hi l (bhStep md ops i acc k) ?_
    unfold bhStep
    cases hk : ops[k]? with
    | none => exact h
    | some ok =>
      simp only
      split
      · rename_i hany
        intro j hj
        rcases List.mem_cons.1 hj with e | e
        · subst e
          obtain ⟨e, he, hb⟩ := Array.any_eq_true'.1 hany
          simp only [Bool.and_eq_true, Bool.or_eq_true, beq_iff_eq] at hb
          have hno : listed.getD e.on false = false := by
            rcases hb.2 with h2 | h2
            · rw [h2]; exact hi
            · exact (h e.on (by simpa using h2)).1
          constructor
          · cases hl : listed.getD j false with
            | false => rfl
            | true =>
              have := hc j ok hk hl e he hb.1
              rw [hno] at this
              cases this
          · intro hr
            obtain ⟨_, o, ho, hall⟩ := mem_ready.1 hr
            rw [hk] at ho
            injection ho with ho
            subst ho
            have := hall e he hb.1
            rw [hno] at this
            cases this
        · exact h j e
      · exact h
theorem behind_not {F : Nat → Bool} {i : Nat} (hB : behindB md ops F i = true) {listed : Array Bool} (hc : Closed md ops listed) (hi : listed.getD i false = false) :
    ∀ j, j < ops.size → j ≠ i → F j = false → listed.getD j false = false ∧ j ∉ Region.ready md ops listed := fun j hj hji hF => by
  have h1 := List.all_eq_true.1 hB j (List.mem_range.2 hj)
  simp only [hF, Bool.or_false, Bool.or_eq_true, beq_iff_eq, hji, false_or] at h1
  exact bh_fold hc hi _ [] (fun _ h => absurd h (by simp)) j (by simpa using h1)

theorem wpAnyC_first {F : Nat → Bool} {i : Nat} {oi : Oper} {v : Value} (hi : ops[i]? = some oi) (hsel : ∀ (j : Nat) (o : Oper) cs b, ops[j]? = some o → o.op ≠ .select cs b)
    (hQ : ∀ c a w, Q (.panic c) (a.put oi.dst v) w → Q (.panic c) a w) (hB : behindB md ops F i = true) :
    ∀ (fuel : Nat) (listed : Array Bool) (a : Act) (w : World), C w → Closed md ops listed →
      (∀ j oj, ops[j]? = some oj → j ≠ i → listed.getD j true = false → (∀ e ∈ oj.after, Region.binds md e = true → e.on ≠ i) → oi.apart ops oj = true) →
      i ∈ Region.ready md ops listed → YieldsC P ops C oi v a →
      wpAnyC P md ops C F Q fuel (listed.setIfInBounds i true) (a.put oi.dst v) w → wpAnyC P md ops C F Q (fuel + 1) listed a w := by
  intro fuel
  induction fuel with
  | zero =>
    intro listed a w hC _ _ hr hy H
    refine ⟨fun h => (by rw [h] at hr; cases hr), fun j hj => ?_⟩
    by_cases hji : j = i
    · subst hji; exact hy.wpOp hi hC ⟨fun _ => hC, H⟩
    · have := ready_mono hj hji
      rw [H.1] at this
      cases this
  | succ fuel ih =>
    intro listed a w hC hcl hfree hr hy H
    refine ⟨fun h => (by rw [h] at hr; cases hr), fun j hj => ?_⟩
    by_cases hji : j = i
    · subst hji; exact hy.wpOp hi hC ⟨fun _ => hC, H⟩
    · have h1 := H.2 j (ready_mono hj hji)
      obtain ⟨hjun, oj, hoj, hall⟩ := mem_ready.1 hj
      have hiun := (mem_ready.1 hr).1
      have hnot : ∀ e ∈ oj.after, Region.binds md e = true → e.on ≠ i := fun e he hb heq => by
        have h1 := hall e he hb
        rw [heq, getD_both hiun] at h1
        cases h1
      have hFj : F j = true := by
        cases hF : F j with
        | true => rfl
        | false => exact absurd hj (behind_not hB hcl (getD_both hiun) j (Array.getElem?_eq_some_iff.1 hoj).1 hji hF).2
      have h2 := wpOp_putC hoj (hfree j oj hoj hji hjun hnot) (fun cs b => hsel i oi cs b hi) (fun cs b => hsel j oj cs b hoj) hQ hy h1
      have hfree' : ∀ k ok, ops[k]? = some ok → k ≠ i → (listed.setIfInBounds j true).getD k true = false →
          (∀ e ∈ ok.after, Region.binds md e = true → e.on ≠ i) → oi.apart ops ok = true := fun k ok hk hki hun hno => by
        refine hfree k ok hk hki ?_ hno
        by_cases hjk : j = k
        · subst hjk; exact hjun
        · rw [getD_set_ne true hjk] at hun; exact hun
      refine wpOp_mono (fun a' w' h3 => ⟨fun _ => h3.2.1 hFj, ih (listed.setIfInBounds j true) a' w' (h3.2.1 hFj) (hcl.set hj) hfree' (ready_mono hr (Ne.symm hji)) h3.1 ?_⟩) h2
      rw [Array.setIfInBounds_comm _ _ hji]
      exact h3.2.2

/-- The walk: an operation that only reads what stays (true), or the only one that may come up (false). -/
def wpStab (P : Program) (l : List Oper) (C : World → Prop) (F : Nat → Bool) (Q : Exit → Act → World → Prop) : List (Nat × Bool) → Act → World → Prop
  | [], a, w => wpList P l.toArray Q [] a w
  | (i, true) :: π, a, w => ∃ o v, l[i]? = some o ∧ YieldsC P l.toArray C o v a ∧ wpStab P l C F Q π (a.put o.dst v) w
  | (i, false) :: π, a, w => ∃ o, l[i]? = some o ∧ wpList P l.toArray (Exit.then (fun a' w' => (F i = true → C w') ∧ wpStab P l C F Q π a' w') Q) [o] a w
theorem stab_yes {F : Nat → Bool} {l : List Oper} {i : Nat} {o : Oper} {π : List (Nat × Bool)} {a : Act} {w : World} (ho : l[i]? = some o)
    (h : ∀ K : Act → Prop, (∀ a', wpStab P l C F Q π a' w → K a') → Region.wanted o (yielded l.toArray a.tmps) = true ∧ ∃ v, (∀ W, C W → (execOp a.eval o).run P W = .ok (.value v) W) ∧ K (a.put o.dst v)) : wpStab P l C F Q ((i, true) :: π) a w := by
  obtain ⟨h1, v, h2, h3⟩ := h (fun a' => wpStab P l C F Q π a' w) (fun _ h => h)
  exact ⟨o, v, ho, .inl ⟨h1, h2⟩, h3⟩
theorem stab_one {F : Nat → Bool} {l : List Oper} {i : Nat} {o : Oper} {π : List (Nat × Bool)} {a : Act} {w : World} (ho : l[i]? = some o)
    (h : ∀ K : Act → World → Prop, (∀ a' w', (F i = true → C w') ∧ wpStab P l C F Q π a' w' → K a' w') → wpList P l.toArray (Exit.then K Q) [o] a w) : wpStab P l C F Q ((i, false) :: π) a w :=
  ⟨o, ho, h _ (fun _ _ h => h)⟩
/-- The check: c says whether the world is in the class. -/
def stabB (md : Region.Mode) (ops : Array Oper) (F : Nat → Bool) : Bool → List (Nat × Bool) → Array Bool → Bool
  | _, [], listed => (Region.ready md ops listed).isEmpty
  | c, (i, true) :: π, listed => c && (Region.ready md ops listed).contains i && Region.free md ops listed i && behindB md ops F i && stabB md ops F c π (listed.setIfInBounds i true)
  | c, (i, false) :: π, listed => (Region.ready md ops listed == [i]) && stabB md ops F (c && F i) π (listed.setIfInBounds i true)
theorem wpAnyC_of_stab {F : Nat → Bool} {l : List Oper} (hsel : Region.noSelect l.toArray = true) (hQ : ∀ c a a' w, a.defers = a'.defers → Q (.panic c) a w → Q (.panic c) a' w) :
    ∀ (π : List (Nat × Bool)) (c : Bool) (listed : Array Bool) (a : Act) (w : World), (c = true → C w) → Closed md l.toArray listed → stabB md l.toArray F c π listed = true → wpStab P l C F Q π a w → wpAnyC P md l.toArray C F Q π.length listed a w
  | [], _, listed, a, w, _, _, hB, h => ⟨by simpa [stabB] using hB, h⟩
  | (i, true) :: π, c, listed, a, w, hC, hcl, hB, h => by
    obtain ⟨o, v, ho0, hy, hK⟩ := h
    have ho : l.toArray[i]? = some o := by simpa using ho0
    simp only [stabB, Bool.and_eq_true] at hB
    obtain ⟨⟨⟨⟨hc, hr⟩, hf⟩, hb⟩, hrest⟩ := hB
    have hr' : i ∈ Region.ready md l.toArray listed := by simpa using hr
    exact wpAnyC_first ho (Region.noSelect_spec hsel) (fun ch a w h => hQ ch _ _ w (by cases o.dst <;> rfl) h) hb π.length listed a w (hC hc) hcl (Region.free_spec ho hf) hr' hy
      (wpAnyC_of_stab hsel hQ π c _ _ _ hC (hcl.set hr') hrest hK)
  | (i, false) :: π, c, listed, a, w, hC, hcl, hB, h => by
    obtain ⟨o, ho0, hK⟩ := h
    have ho : l.toArray[i]? = some o := by simpa using ho0
    simp only [stabB, Bool.and_eq_true] at hB
    obtain ⟨hr, hrest⟩ := hB
    have hr1 : Region.ready md l.toArray listed = [i] := by simpa using hr
    have hr' : i ∈ Region.ready md l.toArray listed := by rw [hr1]; simp
    refine ⟨fun h0 => absurd h0 (by rw [hr1]; simp), fun j hj => ?_⟩
    obtain rfl : j = i := by rw [hr1] at hj; simpa using hj
    refine wpOp_mono (fun a' w' h' => ⟨h'.1, wpAnyC_of_stab hsel hQ π (c && F j) _ a' w' (fun hcf => ?_) (hcl.set hr') hrest h'.2⟩) (wpOp_of_one ho hK)
    rw [Bool.and_eq_true] at hcf
    exact h'.1 hcf.2
theorem wp_region_stab {id : Nat} {a : Act} {w : World} {l : List Oper} (C : World → Prop) (F : List Nat) (π : List (Nat × Bool)) (hm : P.follows .mixedOrders = true) (hQ : ∀ c a a' w, a.defers = a'.defers → Q (.panic c) a w → Q (.panic c) a' w)
    (hB : (Region.noSelect l.toArray && (π.length == l.length) && stabB .any l.toArray (fun i => F.contains i) true π (Array.replicate l.length false)) = true) (hC : C w.drew) (h : wpStab P l C (fun i => F.contains i) Q π a w.drew) : (Code.region id l.toArray true).wp P Q a w := by
  simp only [Bool.and_eq_true, beq_iff_eq] at hB
  obtain ⟨⟨hsel, hlen⟩, hst⟩ := hB
  refine wp_region_any hm (wpAny_of_C (C := C) (F := fun i => F.contains i) _ _ _ _ ?_)
  have h1 := wpAnyC_of_stab (P := P) (Q := Q) (C := C) (md := .any) hsel hQ π true (Array.replicate l.length false) a w.drew (fun _ => hC) (fun j oj _ hl => by rw [getD_replicate_false] at hl; cases hl) hst h
  rw [hlen] at h1
  have hsz : l.toArray.size = l.length := by simp
  rw [hsz]
  exact h1
end
/-- Two cells, and what they hold. -/
def Two (p : Addr) (v : Value) (q : Addr) (u : Value) (W : World) : Prop := W.cell? p = some v ∧ W.cell? q = some u
end Go.Proofs.Ytlkaggjnfidliaa

/-
  The law CodecAgain, walked, under what layer 8's functions are to do. Conditions: none.
-/
namespace Go.Proofs.Ytlkaggjnfidliaa
open Go.RowKit
open Pol (co Sm)

/-- What was laid again of what was read by a step. -/
def agStep (l : List (Int × Nat × List Nat)) (i : Nat) (bs : List Nat) : Rs (List Nat) :=
  if kd l i = 1 then (rdN 18446744073709551615 bs).bind fun n r => .ok (vn n) r else if kd l i = 2 then (rdT 5000 bs).bind fun t r => .ok (vt t) r else if kd l i = 3 then rdB 32 bs else .ok [] bs
theorem agStep_is {l : List (Int × Nat × List Nat)} {i : Nat} {bs t r : List Nat} (hs : Sm bs) (h : agStep l i bs = .ok t r) : bs = t ++ r := by
  unfold agStep at h
  split at h
  · cases hr : rdN 18446744073709551615 bs with
    | er e => rw [hr] at h; cases h
    | ok n r' =>
      rw [hr] at h
      injection h with h1 h2
      subst h1; subst h2
      exact (vn_rdN hs hr).1
  · split at h
    · cases hr : rdT 5000 bs with
      | er e => rw [hr] at h; cases h
      | ok n r' =>
        rw [hr] at h
        injection h with h1 h2
        subst h1; subst h2
        exact (vt_rdT hs hr).1
    · split at h
      · exact (rdB_ok h).1
      · injection h with h1 h2
        subst h1; subst h2
        rfl
/-- What the reading leaves: the bytes that were laid again, in memory of the reading's own, are what was read. -/
def AgJ (g2 hi : Nat) (b : List Nat) (w0 w : World) (y : By) : Prop := Ext w0 w ∧ ∃ v acc, w.cell? ⟨g2, 0, none⟩ = some v ∧ Mine w hi v acc ∧ Sm acc ∧ ((∃ r, y = .done r ∧ acc ++ r = b) ∨ ∃ m, y = .fails m ∧ 0 < m)

theorem AgJ.fails {g2 lo hi n : Nat} {b acc : List Nat} {w0 w w' : World} {v : Value} (hx : Ext w0 w) (ho : Only (Btw lo hi) w w') (hc : w.cell? ⟨g2, 0, none⟩ = some v) (hm : Mine w hi v acc) (hs : Sm acc) (hnb : ¬ Btw lo hi g2) (hlo : w0.heap.size ≤ lo) (hn : 0 < n) : AgJ g2 hi b w0 w' (.fails n) :=
  ⟨only_btw_ext ho hx hlo, v, acc, ho.cell hc hnb, mine_only hm ho (fun k hk hb => by have := (hm.block k hk).1; have := hb.2; omega), hs, .inr ⟨n, rfl, hn⟩⟩

/-- What holds ahead of a step. -/
structure AgI (I : Rdr) (lo hi g g2 : Nat) (B : Option Addr) (ρ : Addr) (gv v : Value) (r acc : List Nat) (w0 w : World) : Prop where
  ri : I.RI lo hi B ρ w r
  cg : w.cell? ⟨g, 0, none⟩ = some gv
  c2 : w.cell? ⟨g2, 0, none⟩ = some v
  z2 : w.frozen? ⟨g2, 0, none⟩ = false
  mine : Mine w hi v acc
  ext : Ext w0 w
  size : hi ≤ w.heap.size
theorem AgI.reads {I : Rdr} {lo hi g g2 : Nat} {B : Option Addr} {ρ : Addr} {gv v : Value} {r r' acc : List Nat} {w0 w w' : World} (h : AgI I lo hi g g2 B ρ gv v r acc w0 w) (hr : I.RI lo hi B ρ w' r') (ho : Only (Btw lo hi) w w') (hg : g < lo) (hg2 : g2 < lo) (hlo : w0.heap.size ≤ lo) : AgI I lo hi g g2 B ρ gv v r' acc w0 w' :=
  have n1 : ¬ Btw lo hi g := fun h => by have := h.1; omega
  have n2 : ¬ Btw lo hi g2 := fun h => by have := h.1; omega
  ⟨hr, ho.cell h.cg n1, ho.cell h.c2 n2, (ho.frozen (o := 0) (block_lt_of_cell h.c2) n2).trans h.z2, mine_only h.mine ho (fun k hk hb => by have := (h.mine.block k hk).1; have := hb.2; omega), only_btw_ext ho h.ext hlo, Nat.le_trans h.size ho.size⟩
theorem AgI.next {I : Rdr} (C : CodecSaid I) {lo hi g g2 : Nat} {B : Option Addr} {ρ : Addr} {gv v v' : Value} {r acc acc' : List Nat} {w0 w w' : World} (h : AgI I lo hi g g2 B ρ gv v r acc w0 w) (hm : Mine w' hi v' acc') (hgr : w.grownBy w' v.ownBlock) (hg : g < lo) (hg2 : g2 < lo) (hgg : g ≠ g2) (hlo : lo ≤ hi) (hg0 : w0.heap.size ≤ g2) (hB : ∀ k o, B = some ⟨k, o, none⟩ → k < w0.heap.size) :
    (w'.cell? ⟨g2, 0, none⟩ = some v ∧ w'.frozen? ⟨g2, 0, none⟩ = false) ∧ AgI I lo hi g g2 B ρ gv v' r acc' w0 (w'.setCell ⟨g2, 0, none⟩ v') := by
  have own : ∀ k, v.ownBlock = some k → hi ≤ k := fun k hk => (h.mine.block k hk).1
  have far : ∀ k, k < hi → some k ≠ v.ownBlock := fun k hk e => by have := own k e.symm; omega
  have c2 : w'.cell? ⟨g2, 0, none⟩ = some v := hgr.cell h.c2 (far g2 (by omega))
  have z2 : w'.frozen? ⟨g2, 0, none⟩ = false := (World.frozen?_of_block (a := ⟨g2, 0, none⟩) (hgr.block g2 (block_lt_of_cell h.c2) (far g2 (by omega)))).trans h.z2
  have hs := h.size
  have hsz : hi ≤ w'.heap.size := Nat.le_trans h.size hgr.size
  have blk : ∀ k, k < hi → k ≠ g2 → (w'.setCell ⟨g2, 0, none⟩ v').heap[k]? = w.heap[k]? := fun k hk hne => (Below.heap_setCell _ _ _ k hne).trans (hgr.block k (by omega) (far k hk))
  refine ⟨⟨c2, z2⟩, C.keep lo hi B ρ w _ r h.ri (fun k hk => blk k hk.2 (by have := hk.1; omega)) (fun k o e => blk k (by have := hB k o e; omega) (by have := hB k o e; omega)), ?_, World.cell?_setCell_same' _ _ _ (by rw [c2]; rfl), by rw [World.frozen?_setCell]; exact z2, ?_, ?_, ?_⟩
  · exact (World.cell?_of_block (a := ⟨g, 0, none⟩) (blk g (by omega) hgg)).trans h.cg
  · exact mine_only hm (X := fun k => k = g2) (Only.of_grown (grown_set' _ _ _ _) (fun k e => by cases e; rfl)) (fun k hk e => by have := (hm.block k hk).1; omega)
  · exact (h.ext.more hgr (fun k hk => by have := own k hk; omega)).setCell (p := ⟨g2, 0, none⟩) hg0 _
  · exact Nat.le_trans hsz (by simp [World.setCell])

set_option maxHeartbeats 3200000 in
set_option maxRecDepth 100000 in
theorem again8_by (I : Rdr) (C : CodecSaid I) (lo hi g g2 : Nat) (B A : Option Addr) (ρ : Addr) (b : List Nat) (l : List (Int × Nat × List Nat)) (ca : Nat) (w0 w : World) (hI : I.RI lo hi B ρ w b) (hb : b.length ≤ 400) (hc : w.cell? ⟨g, 0, none⟩ = some (.slice A l.length ca)) (hc2 : w.cell? ⟨g2, 0, none⟩ = some (.slice none 0 0)) (hz2 : w.frozen? ⟨g2, 0, none⟩ = false) (hT : TRd w0 A l) (hx : Ext w0 w) (hg : g < lo) (hg2 : g2 < lo) (hgg : g ≠ g2) (hg0 : w0.heap.size ≤ g2) (hhi : hi ≤ w.heap.size) (hlo : lo ≤ hi) (hB : ∀ k o, B = some ⟨k, o, none⟩ → k < w0.heap.size) (hl : l.length ≤ 30) :
    Calls Try.prog 28 #[.pointer (some ρ), .pointer (some ⟨g, 0, none⟩), .pointer (some ⟨g2, 0, none⟩)] w (ByE I lo hi B ρ (fun _ w' y => AgJ g2 hi b w0 w' y)) := by
  have HC := Lib.hid C
  have HI := Lib.hid hI
  have HT := Lib.hid hT
  have HX := Lib.hid hx
  have HG := Lib.hid hc
  have HG2 := Lib.hid hc2
  have HZ2 := Lib.hid hz2
  have HB := Lib.hid hB
  have HBL := Lib.hid hb
  have HSB := Lib.hid (C.sm lo hi B ρ w b hI).1
  have hnb : ¬ Btw lo hi g := fun h => by have := h.1; omega
  have hnb2 : ¬ Btw lo hi g2 := fun h => by have := h.1; omega
  have hlo0 : w0.heap.size ≤ lo := by omega
  clear C hI hT hx hz2 hB
  generalize hn : l.length = n at *
  have HN := Lib.hid hn
  clear hn
  go_enter Try.func28, Try.ntmps28
  go_wp2
  clear hc hc2
  go_loopg [7] n (fun gh s7 wx => ∃ (k : Nat) (rest acc : List Nat) (v : Value), k + gh = n ∧ s7 = .int .i64 (k : Int) ∧ acc ++ rest = b ∧ AgI I lo hi g g2 B ρ (.slice A n ca) v rest acc w0 wx)
  case atStart => exact ⟨0, b, [], .slice none 0 0, by omega, rfl, rfl, HI.out, HG.out, HG2.out, HZ2.out, Mine.nil _ _, HX.out, hhi⟩
  case round =>
    obtain ⟨k, rest, acc, v, hkg, rfl, hab, hai⟩ := hrel
    have HAI := Lib.hid hai
    have hcg := hai.cg
    have hcg2 := hai.c2
    have HX1 := Lib.hid hai.ext
    have HAB := Lib.hid hab
    have hsa : Sm acc ∧ Sm rest := sm_split (hab ▸ HSB.out)
    have HSA := Lib.hid hsa.1
    have HSR := Lib.hid hsa.2
    have hlen : acc.length + rest.length ≤ 400 := by rw [← List.length_append, hab]; exact HBL.out
    clear hai hab hsa
    cases gk with
    | zero =>
      obtain rfl : k = n := by omega
      clear hkg hcg2
      go_wp2
      go_end0
      exact .inl ⟨rest, _, rfl, HAI.out.ri, HX1.out, v, acc, HAI.out.c2, HAI.out.mine, HSA.out, .inl ⟨rest, rfl, HAB.out⟩⟩
    | succ gh =>
      have hk : k < n := by omega
      have hkI : (k : Int) < (n : Int) := by omega
      obtain ⟨b1, o1, B1, c1, e1, hc1, _⟩ := HT.out.at HX1.out k (by rw [HN.out]; exact hk)
      subst e1
      obtain ⟨q, hq⟩ : ∃ q, kd l k = q := ⟨_, rfl⟩
      rw [hq] at hc1
      clear hq
      by_cases h1 : q = 1
      · subst h1
        have HL := Lib.hid (fun W (hW : I.RI lo hi B ρ W rest) => HC.out.number lo hi B ρ W rest 18446744073709551615 hW (by omega))
        go_wp2
        refine wp_region_stab (fun W => W.cell? ⟨g2, 0, none⟩ = some v) [0, 1, 2] [(0, true), (1, true), (2, false), (3, false), (4, false)] (by kernel_rfl) (fun c a a' w e h => ⟨e ▸ h.1, h.2⟩) (by kernel_rfl) hcg2 ?_
        refine stab_yes rfl (fun K hK => ?_)
        go_simp
        refine ⟨v, fun W hW => ?_, hK _ ?_⟩
        focus (have h1 : W.cell? ⟨g2, 0, none⟩ = some v := hW; go_simp; done)
        clear hK K
        refine stab_yes rfl (fun K hK => ?_)
        go_simp
        refine ⟨_, fun _ _ => rfl, hK _ ?_⟩
        clear hK K
        refine stab_one rfl (fun K hK => ?_)
        go_wp2_with fail
        have HA0 := Lib.hid (show AgI I lo hi g g2 B ρ (.slice (some ⟨b1, o1, none⟩) n ca) v rest acc w0 wr.drew from ⟨HC.out.keep lo hi B ρ wr wr.drew rest HAI.out.ri (fun _ _ => rfl) (fun _ _ _ => rfl), HAI.out.cg, HAI.out.c2, HAI.out.z2, mine_ext HAI.out.mine (Ext.refl wr).drew, HAI.out.ext.drew, HAI.out.size⟩)
        refine (HL.out wr.drew HA0.out.ri).mono ?_
        rintro e w1 ⟨ho1, h⟩
        cases hrd : rdN 18446744073709551615 rest with
        | er n1 =>
          rw [hrd] at h
          obtain ⟨ch, rfl, hst⟩ := h
          exact ⟨rfl, .inr (.inl ⟨n1, ch, rfl, hst, AgJ.fails HA0.out.ext ho1 HA0.out.c2 HA0.out.mine HSA.out hnb2 hlo0 (rdN_er hrd).1⟩)⟩
        | ok x r =>
          rw [hrd] at h
          obtain ⟨v1, rfl, rfl, hi2⟩ := h
          have h1x := vn_rdN HSR.out hrd
          have hrr := h1x.1
          have HA1 := Lib.hid (HA0.out.reads hi2 ho1 hg hg2 hlo0)
          have c2 := HA1.out.c2
          have HLY := Lib.hid (HC.out.layN hi v acc x w1 HA1.out.mine HSA.out (by omega) (by have := h1x.2.1; omega) HA1.out.size)
          have HRR := Lib.hid (show acc ++ vn x ++ r = b from by rw [List.append_assoc, ← hrr, HAB.out])
          clear hi2 ho1 hrd h1x hrr
          go_wp2
          refine ⟨fun _ => c2, ?_⟩
          refine stab_one rfl (fun K hK => ?_)
          go_wp2_with fail
          refine HLY.out.mono ?_
          rintro e w2 ⟨v2, rfl, hm2, hgr2, _⟩
          obtain ⟨Bv, cv, ev, _, _⟩ := hm2.slice (sm_split (a := _) (b := r) (by rw [HRR.out]; exact HSB.out)).1
          subst ev
          obtain ⟨⟨c3, z3⟩, ha3⟩ := HA1.out.next HC.out hm2 hgr2 hg hg2 hgg hlo hg0 HB.out
          have HA3 := Lib.hid ha3
          clear hm2 hgr2 ha3 c2
          generalize List.length _ = lv at HA3 ⊢
          go_wp2
          refine ⟨fun h => absurd h (by decide), ?_⟩
          refine stab_one rfl (fun K hK => ?_)
          go_wp2
          refine ⟨fun h => absurd h (by decide), ?_⟩
          unfold wpStab
          go_wp2
          go_roundg gh
          case measure => omega
          case rel => exact ⟨k + 1, r, acc ++ vn x, _, by omega, by go_num, HRR.out, HA3.out⟩
      have t1 : (q == 1) = false := beq_eq_false_iff_ne.2 h1
      by_cases h2 : q = 2
      · subst h2
        have HL := Lib.hid (fun W (hW : I.RI lo hi B ρ W rest) => HC.out.text lo hi B ρ W rest 5000 hW (by omega))
        go_wp2
        refine wp_region_stab (fun W => W.cell? ⟨g2, 0, none⟩ = some v) [0, 1, 2] [(0, true), (1, true), (2, false), (3, false), (4, false)] (by kernel_rfl) (fun c a a' w e h => ⟨e ▸ h.1, h.2⟩) (by kernel_rfl) hcg2 ?_
        refine stab_yes rfl (fun K hK => ?_)
        go_simp
        refine ⟨v, fun W hW => ?_, hK _ ?_⟩
        focus (have h1 : W.cell? ⟨g2, 0, none⟩ = some v := hW; go_simp; done)
        clear hK K
        refine stab_yes rfl (fun K hK => ?_)
        go_simp
        refine ⟨_, fun _ _ => rfl, hK _ ?_⟩
        clear hK K
        refine stab_one rfl (fun K hK => ?_)
        go_wp2_with fail
        have HA0 := Lib.hid (show AgI I lo hi g g2 B ρ (.slice (some ⟨b1, o1, none⟩) n ca) v rest acc w0 wr.drew from ⟨HC.out.keep lo hi B ρ wr wr.drew rest HAI.out.ri (fun _ _ => rfl) (fun _ _ _ => rfl), HAI.out.cg, HAI.out.c2, HAI.out.z2, mine_ext HAI.out.mine (Ext.refl wr).drew, HAI.out.ext.drew, HAI.out.size⟩)
        refine (HL.out wr.drew HA0.out.ri).mono ?_
        rintro e w1 ⟨ho1, h⟩
        cases hrd : rdT 5000 rest with
        | er n1 =>
          rw [hrd] at h
          obtain ⟨ch, rfl, hst⟩ := h
          exact ⟨rfl, .inr (.inl ⟨n1, ch, rfl, hst, AgJ.fails HA0.out.ext ho1 HA0.out.c2 HA0.out.mine HSA.out hnb2 hlo0 (rdT_er hrd).1⟩)⟩
        | ok x r =>
          rw [hrd] at h
          obtain ⟨v1, rfl, ⟨Bt, ct, rfl, hct, hrt, hbt⟩, hi2⟩ := h
          have h1x := vt_rdT HSR.out hrd
          have hrr := h1x.1
          have HA1 := Lib.hid (HA0.out.reads hi2 ho1 hg hg2 hlo0)
          have c2 := HA1.out.c2
          have HLY := Lib.hid (HC.out.layT hi v acc x Bt ct w1 HA1.out.mine HSA.out hrt (fun b o e h hh => by have h1 := hbt b o e h; have h2 := (HA0.out.mine.block b hh).2; omega) (by omega) (by have := h1x.2.1; omega) hct HA1.out.size)
          have HRR := Lib.hid (show acc ++ vt x ++ r = b from by rw [List.append_assoc, ← hrr, HAB.out])
          clear hi2 ho1 hrd h1x hrr
          go_wp2
          refine ⟨fun _ => c2, ?_⟩
          refine stab_one rfl (fun K hK => ?_)
          go_wp2_with fail
          refine HLY.out.mono ?_
          rintro e w2 ⟨v2, rfl, hm2, hgr2, _⟩
          obtain ⟨Bv, cv, ev, _, _⟩ := hm2.slice (sm_split (a := _) (b := r) (by rw [HRR.out]; exact HSB.out)).1
          subst ev
          obtain ⟨⟨c3, z3⟩, ha3⟩ := HA1.out.next HC.out hm2 hgr2 hg hg2 hgg hlo hg0 HB.out
          have HA3 := Lib.hid ha3
          clear hm2 hgr2 ha3 c2
          generalize List.length _ = lv at HA3 ⊢
          go_wp2
          refine ⟨fun h => absurd h (by decide), ?_⟩
          refine stab_one rfl (fun K hK => ?_)
          go_wp2
          refine ⟨fun h => absurd h (by decide), ?_⟩
          unfold wpStab
          go_wp2
          go_roundg gh
          case measure => omega
          case rel => exact ⟨k + 1, r, acc ++ vt x, _, by omega, by go_num, HRR.out, HA3.out⟩
      have t2 : (q == 2) = false := beq_eq_false_iff_ne.2 h2
      by_cases h3 : q = 3
      · subst h3
        have HL := Lib.hid (fun W (hW : I.RI lo hi B ρ W rest) => HC.out.digest lo hi B ρ W rest hW)
        go_wp2
        refine wp_region_stab (fun W => W.cell? ⟨g2, 0, none⟩ = some v) [0, 1, 2] [(0, true), (1, true), (2, false), (3, false), (4, false)] (by kernel_rfl) (fun c a a' w e h => ⟨e ▸ h.1, h.2⟩) (by kernel_rfl) hcg2 ?_
        refine stab_yes rfl (fun K hK => ?_)
        go_simp
        refine ⟨v, fun W hW => ?_, hK _ ?_⟩
        focus (have h1 : W.cell? ⟨g2, 0, none⟩ = some v := hW; go_simp; done)
        clear hK K
        refine stab_yes rfl (fun K hK => ?_)
        go_simp
        refine ⟨_, fun _ _ => rfl, hK _ ?_⟩
        clear hK K
        refine stab_one rfl (fun K hK => ?_)
        go_wp2_with fail
        have HA0 := Lib.hid (show AgI I lo hi g g2 B ρ (.slice (some ⟨b1, o1, none⟩) n ca) v rest acc w0 wr.drew from ⟨HC.out.keep lo hi B ρ wr wr.drew rest HAI.out.ri (fun _ _ => rfl) (fun _ _ _ => rfl), HAI.out.cg, HAI.out.c2, HAI.out.z2, mine_ext HAI.out.mine (Ext.refl wr).drew, HAI.out.ext.drew, HAI.out.size⟩)
        refine (HL.out wr.drew HA0.out.ri).mono ?_
        rintro e w1 ⟨ho1, h⟩
        cases hrd : rdB 32 rest with
        | er n1 =>
          rw [hrd] at h
          obtain ⟨ch, rfl, hst⟩ := h
          exact ⟨rfl, .inr (.inl ⟨n1, ch, rfl, hst, AgJ.fails HA0.out.ext ho1 HA0.out.c2 HA0.out.mine HSA.out hnb2 hlo0 (rdB_er hrd).1⟩)⟩
        | ok x r =>
          rw [hrd] at h
          obtain ⟨v1, rfl, rfl, hi2⟩ := h
          have h1x := rdB_ok hrd
          have hrr := h1x.1
          have HA1 := Lib.hid (HA0.out.reads hi2 ho1 hg hg2 hlo0)
          have c2 := HA1.out.c2
          have HLY := Lib.hid (HC.out.layD hi v acc x w1 HA1.out.mine HSA.out (sm_split (h1x.1 ▸ HSR.out)).1 h1x.2 (by omega) HA1.out.size)
          have HRR := Lib.hid (show acc ++ x ++ r = b from by rw [List.append_assoc, ← hrr, HAB.out])
          clear hi2 ho1 hrd h1x hrr
          go_wp2
          refine ⟨fun _ => c2, ?_⟩
          refine stab_one rfl (fun K hK => ?_)
          go_wp2_with fail
          refine HLY.out.mono ?_
          rintro e w2 ⟨v2, rfl, hm2, hgr2, _⟩
          obtain ⟨Bv, cv, ev, _, _⟩ := hm2.slice (sm_split (a := _) (b := r) (by rw [HRR.out]; exact HSB.out)).1
          subst ev
          obtain ⟨⟨c3, z3⟩, ha3⟩ := HA1.out.next HC.out hm2 hgr2 hg hg2 hgg hlo hg0 HB.out
          have HA3 := Lib.hid ha3
          clear hm2 hgr2 ha3 c2
          generalize List.length _ = lv at HA3 ⊢
          go_wp2
          refine ⟨fun h => absurd h (by decide), ?_⟩
          refine stab_one rfl (fun K hK => ?_)
          go_wp2
          refine ⟨fun h => absurd h (by decide), ?_⟩
          unfold wpStab
          go_wp2
          go_roundg gh
          case measure => omega
          case rel => exact ⟨k + 1, r, acc ++ x, _, by omega, by go_num, HRR.out, HA3.out⟩
      have t3 : (q == 3) = false := beq_eq_false_iff_ne.2 h3
      clear h1 h2 h3
      go_wp2
      go_roundg gh
      case measure => omega
      case rel => exact ⟨k + 1, rest, acc, v, by omega, by go_num, HAB.out, HAI.out⟩

set_option maxHeartbeats 3200000 in
set_option maxRecDepth 100000 in
theorem again8_walk (I : Rdr) (C : CodecSaid I) (b : List Nat) (B : Option Addr) (cb : Nat) (l : List (Int × Nat × List Nat)) (A : Option Addr) (ca : Nat) (w : World) (hr : Rd w B b) (hcb : b.length ≤ cb) (hT : TRd w A l) (hla : l.length ≤ 9223372036854775807) :
    Calls Try.prog 5 #[.slice B b.length cb, .slice A l.length ca] w (Holds w) := by
  have hmf : ∀ (fn : Fn) (first cap : Array Value) (w : World), (Instr.makeFunc fn first cap).run Try.prog w = .ok (.func fn first cap) w := fun _ _ _ _ => rfl
  have HAW := Lib.hid (fun u => awake8 I C u)
  have HFE := Lib.hid (fun u (hx : Ext w u) => law8_few l A ca u (hT.ext hx) hla)
  have HRD := Lib.hid (fun g g2 (u : World) (hx : Ext w u) (hb : b.length ≤ 400) (hl : l.length ≤ 30) (hc : u.cell? ⟨g, 0, none⟩ = some (.slice A l.length ca)) (hc2 : u.cell? ⟨g2, 0, none⟩ = some (.slice none 0 0)) (hz2 : u.frozen? ⟨g2, 0, none⟩ = false) (hgg : g ≠ g2) (hg0 : w.heap.size ≤ g2) =>
    show Calls Try.prog 10 #[.slice B b.length cb, .func (.func 28) #[] #[.pointer (some ⟨g, 0, none⟩), .pointer (some ⟨g2, 0, none⟩)]] u (ReadE (fun hi w' y => AgJ g2 hi b w w' y) u) from
    C.read b B cb _ _ u _ ⟨_, _, Try.func28, rfl, by kernel_rfl⟩ (hr.ext hx) hcb (by omega) (fun hi ρ w1 hx1 hlo hhi hI =>
      again8_by I C u.heap.size hi g g2 (nz b B) A ρ b l ca w w1 hI hb ((hx1.below.cell (p := ⟨g, 0, none⟩) (block_lt_of_cell hc)).trans hc) ((hx1.below.cell (p := ⟨g2, 0, none⟩) (block_lt_of_cell hc2)).trans hc2) ((hx1.below.frozen (p := ⟨g2, 0, none⟩) (block_lt_of_cell hc2)).trans hz2) hT (hx.trans hx1) (block_lt_of_cell hc) (block_lt_of_cell hc2) hgg hg0 hhi hlo (fun k o e => hr.block' k o (nz_some e).1 (nz_some e).2) hl))
  have HR := Lib.hid hr
  have HSB := Lib.hid hr.1
  clear C hT hr
  unfold FewE at HFE
  generalize hlb : b.length = nb at *
  have HLB := Lib.hid hlb
  clear hlb
  generalize l.length = n at *
  generalize FewS l n = FS at *
  have HX0 := Lib.hid (show Ext w (w.alloc (.cells #[.slice A n ca] 23)) from (Ext.refl w).alloc _)
  have HC0 := Lib.hid (show (w.alloc (.cells #[.slice A n ca] 23)).cell? ⟨w.heap.size, 0, none⟩ = some (.slice A n ca) from by rw [cell_of_row _ _ _ _ _ _ (heap_alloc_new w _)]; rfl)
  go_enter Try.func5, Try.ntmps5
  go_wp2_with fail
  refine (HAW.out _).mono ?_
  rintro e w1 ⟨rfl, hx1⟩
  have HX1 := Lib.hid (HX0.out.trans hx1)
  have HC1 := Lib.hid ((hx1.below.cell (p := ⟨w.heap.size, 0, none⟩) (block_lt_of_cell HC0.out)).trans HC0.out)
  have c1 := HC1.out
  have hgs : w.heap.size < w1.heap.size := block_lt_of_cell HC1.out
  clear hx1 HC0
  obtain ⟨g0, hg0⟩ : ∃ g0, w.heap.size = g0 := ⟨_, rfl⟩
  rw [hg0] at c1 hgs HC1 ⊢
  go_wp2_with fail
  refine (HFE.out w1 HX1.out).mono ?_
  rintro e w2 (⟨⟨hfs, h30⟩, rfl, rfl⟩ | ⟨hno, rfl, rfl⟩)
  · by_cases h400 : nb ≤ 400
    · have d1 : decide (400 < (nb : Int)) = false := decide_eq_false (by omega)
      have hrd := HRD.out g0 w1.heap.size (w1.alloc (.cells #[.slice none 0 0] 22)) (HX1.out.alloc _) h400 h30 ((((Ext.refl w1).alloc (.cells #[.slice none 0 0] 22)).below.cell (p := ⟨g0, 0, none⟩) (block_lt_of_cell HC1.out)).trans HC1.out) (by rw [cell_of_row _ _ _ _ _ _ (heap_alloc_new w1 _)]; rfl) (frozen_of_row _ _ _ _ _ (heap_alloc_new w1 _)) (by omega) (by omega)
      have HRD1 := Lib.hid hrd
      clear hrd hfs c1
      go_wp2_with fail
      refine HRD1.out.mono ?_
      rintro e w3 ⟨hi, w4, y, hhi, ⟨hx4, v, acc, hc4, hm4, hsa, hdone⟩, ho, he⟩
      have hx3 : Ext w w3 := only_btw_ext ho hx4 (by simp; omega)
      have hnb2 : ¬ Btw (w1.alloc (.cells #[.slice none 0 0] 22)).heap.size hi w1.heap.size := fun h => by have := h.1; simp at this; omega
      have c3 := ho.cell hc4 hnb2
      have hm3 := mine_only hm4 ho (fun k hk hb => by have := (hm4.block k hk).1; have := hb.2; omega)
      obtain ⟨Bv, cv, ev, _, hrv⟩ := hm3.slice hsa
      subst ev
      have HX3 := Lib.hid hx3
      have HRV := Lib.hid hrv
      clear ho hx4 hm4 hm3 hc4 hrv hx3 hnb2
      rcases hdone with ⟨r, rfl, hac⟩ | ⟨m, rfl, hm⟩
      · have HAC := Lib.hid hac
        clear hac
        cases r with
        | nil =>
          obtain rfl : e = .returned (.int .i64 0) := he
          have hab : acc = b := by have h := HAC.out; rwa [List.append_nil] at h
          subst hab
          rw [HLB.out] at c3
          have hsm := same_tells acc Bv B cv cb w3 HRV.out (HR.out.ext HX3.out) (by rw [HLB.out]; omega)
          rw [HLB.out] at hsm
          have HSM := Lib.hid hsm
          clear hsm
          go_wp2_with fail
          refine HSM.out.mono ?_
          rintro e w5 ⟨rfl, hx5⟩
          have HX5 := Lib.hid (HX3.out.trans hx5)
          clear hx5
          go_wp2
          go_ret
          exact ⟨rfl, HX5.out⟩
        | cons r0 rs =>
          obtain rfl : e = .returned (.int .i64 3) := he
          clear c3
          go_wp2
          go_ret
          exact ⟨rfl, HX3.out⟩
      · obtain rfl : e = .returned (.int .i64 (m : Int)) := he
        have t0 : ((m : Int) != 0) = true := by simp; omega
        clear c3
        go_wp2
        go_ret
        exact ⟨rfl, HX3.out⟩
    · have d1 : decide (400 < (nb : Int)) = true := decide_eq_true (by omega)
      clear hfs
      go_wp2_with fail
      refine (HAW.out _).mono ?_
      rintro e w2 ⟨rfl, hx2⟩
      have HX2 := Lib.hid (HX1.out.trans hx2)
      clear hx2
      go_wp2
      go_ret
      exact ⟨rfl, HX2.out⟩
  · clear hno c1
    go_wp2_with fail
    refine (HAW.out _).mono ?_
    rintro e w2 ⟨rfl, hx2⟩
    have HX2 := Lib.hid (HX1.out.trans hx2)
    clear hx2
    go_wp2
    go_ret
    exact ⟨rfl, HX2.out⟩
end Go.Proofs.Ytlkaggjnfidliaa

/-
  What the document's own Number and Text of layer 8 do. Conditions: no more than 2^20 bytes.
-/
namespace Go.Proofs.Ytlkaggjnfidliaa
open Go.RowKit
open Pol (co Sm)

/-- Bytes of a call's own. -/
def OwnE (l : List Nat) (w : World) (e : Ending) (w' : World) : Prop := ∃ v, e = .returned v ∧ Mine w' w.heap.size v l ∧ Ext w w'

set_option maxHeartbeats 1600000 in
set_option maxRecDepth 100000 in
theorem ref8_number (n : Nat) (w : World) (hn : n < 18446744073709551616) : Calls Try.prog 25 #[.int .u64 (n : Int)] w (OwnE (vn n) w) := by
  unfold OwnE
  have HSM := Lib.hid (vn_sm n)
  have HTEN := Lib.hid (vn_ten hn)
  have hn10 : n < 128 ^ (9 + 1) := by omega
  obtain ⟨V, hV⟩ : ∃ V, vn n = V := ⟨_, rfl⟩
  rw [hV] at HSM HTEN
  rw [hV]
  have HV := Lib.hid hV
  clear hV
  go_enter Try.func25, Try.ntmps25
  go_wp2
  go_loopg [0, 3] 9 (fun g s0 s3 wx => ∃ (m : Nat) (acc : List Nat) (B : Option Addr) (c : Nat), m < 128 ^ (g + 1) ∧ s0 = .int .u64 (m : Int) ∧ m < 18446744073709551616 ∧ acc ++ vn m = V ∧ s3 = .slice B acc.length c ∧ Mine wx w.heap.size (.slice B acc.length c) acc ∧ Ext w wx)
  case atStart => exact ⟨n, [], none, 0, hn10, rfl, hn, HV.out, rfl, Mine.nil _ _, Ext.refl _⟩
  case round =>
    obtain ⟨m, acc, B, c, hmg, rfl, hm64, hac, rfl, hmi, hx⟩ := hrel
    have HM := Lib.hid hmi
    have HX := Lib.hid hx
    have hlen : acc.length ≤ 10 := by have := HTEN.out; rw [← hac, List.length_append] at this; omega
    obtain ⟨la, hla⟩ : ∃ la, acc.length = la := ⟨_, rfl⟩
    have HLA := Lib.hid hla
    rw [hla] at HM hlen ⊢
    clear hmi hx hla
    by_cases h128 : m < 128
    · have d1 : decide (128 ≤ (m : Int)) = false := decide_eq_false (by omega)
      have e1 : IntKind.u8.wrap (m : Int) = (m : Int) := IntWalk.u8_in _ (by omega)
      have HAV := Lib.hid (show acc ++ [m] = V from by rw [← hac, vn_lt h128])
      have hm256 : m < 256 := by omega
      clear hac hmg
      go_wp2_with (at_builtin; refine wpList_append_rd rfl (.tmp 15) (.tmp 18) rfl w.heap.size _ acc [m] rfl (mine_ext HM.out ((Ext.refl _).alloc _)) (some ⟨wr.heap.size, 0, none⟩) 1 1 rfl rfl (rd_one wr m hm256) (by rw [HLA.out]; simp; omega) (by simp; have := HX.out.size; omega) ?_; intro v' w3 hown' hg' hat'; rw [HAV.out] at hown'; have hx3 := (HX.out.alloc (.cells #[.int .u8 (m : Int)] 5)).more hg' (fun r e => (HM.out.block r e).1); obtain ⟨Bv, cv, ev', hcv, _⟩ := hown'.slice HSM.out; subst ev'; have HO := Lib.hid hown'; have HX3 := Lib.hid hx3; clear hown' hg' hat' hx3)
      go_ret
      exact ⟨_, rfl, HO.out, HX3.out⟩
    · cases gk with
      | zero => omega
      | succ g =>
        have d1 : decide (128 ≤ (m : Int)) = true := decide_eq_true (by omega)
        obtain ⟨q, hq⟩ : ∃ q, m % 128 = q := ⟨_, rfl⟩
        obtain ⟨y, hy⟩ : ∃ y, q + 128 = y := ⟨_, rfl⟩
        obtain ⟨m2, hm2⟩ : ∃ m2, m / 128 = m2 := ⟨_, rfl⟩
        have e1 : (m : Int) % 128 = (q : Int) := by omega
        have e1' : (m : Int).tmod 128 = (q : Int) := by rw [Int.tmod_eq_emod_of_nonneg (by omega)]; exact e1
        have e2 : IntKind.u64.wrap (q : Int) = (q : Int) := by rw [IntKind.wrap_u64]; omega
        have e3 : IntKind.u64.wrap ((q : Int) + 128) = (y : Int) := by rw [IntKind.wrap_u64]; omega
        have e4 : IntKind.u8.wrap (y : Int) = (y : Int) := IntWalk.u8_in _ (by omega)
        have e5 : (m : Int) / 128 = (m2 : Int) := by omega
        have e5' : (m : Int).tdiv 128 = (m2 : Int) := by rw [Int.tdiv_eq_ediv_of_nonneg (by omega)]; exact e5
        have e6 : IntKind.u64.wrap (m2 : Int) = (m2 : Int) := by rw [IntKind.wrap_u64]; omega
        have hy256 : y < 256 := by omega
        have HAV := Lib.hid (show (acc ++ [y]) ++ vn m2 = V from by rw [← hac, vn_ge h128, List.append_assoc, hq, hy, hm2]; rfl)
        have HS9 := Lib.hid (show Sm (acc ++ [y]) from (sm_split (b := vn m2) (by rw [HAV.out]; exact HSM.out)).1)
        have HL9 := Lib.hid (show (acc ++ [y]).length = la + 1 by rw [List.length_append, HLA.out]; rfl)
        have hm2b : m2 < 128 ^ (g + 1) := by rw [← hm2]; rw [Nat.pow_succ] at hmg; omega
        have hm2c : m2 < 18446744073709551616 := by omega
        clear hac hq hy hm2 hmg
        go_wp2_with (at_builtin; refine wpList_append_rd rfl (.tmp 6) (.tmp 11) rfl w.heap.size _ acc [y] rfl (mine_ext HM.out ((Ext.refl _).alloc _)) (some ⟨wr.heap.size, 0, none⟩) 1 1 rfl rfl (rd_one wr y hy256) (by rw [HLA.out]; simp; omega) (by simp; have := HX.out.size; omega) ?_; intro v' w3 hown' hg' hat'; have hx3 := (HX.out.alloc (.cells #[.int .u8 (y : Int)] 5)).more hg' (fun r e => (HM.out.block r e).1); obtain ⟨Bv, cv, ev', hcv, _⟩ := hown'.slice HS9.out; rw [HL9.out] at ev'; subst ev'; have HO := Lib.hid hown'; have HX3 := Lib.hid hx3; clear hown' hg' hat' hx3)
        go_roundg g
        case measure => omega
        case rel => exact ⟨m2, acc ++ [y], Bv, cv, hm2b, rfl, hm2c, HAV.out, by rw [HL9.out], by rw [HL9.out]; exact HO.out, HX3.out⟩

set_option maxHeartbeats 1600000 in
theorem ref8_text (s : List Nat) (A : Option Addr) (ca : Nat) (w : World) (hr : Rd w A s) (hl : s.length ≤ 1048576) : Calls Try.prog 26 #[.slice A s.length ca] w (OwnE (vt s) w) := by
  have HN := Lib.hid (ref8_number s.length w (by omega))
  have HR := Lib.hid hr
  have HS := Lib.hid (vt_sm hr.1)
  have HSN := Lib.hid (vn_sm s.length)
  have HTEN := Lib.hid (vn_ten (n := s.length) (by omega))
  have HVT := Lib.hid (show vn s.length ++ s = vt s from rfl)
  unfold OwnE at *
  clear hr
  generalize hn : s.length = n at *
  have HL := Lib.hid hn
  clear hn
  have e1 : IntKind.u64.wrap (n : Int) = (n : Int) := by rw [IntKind.wrap_u64]; omega
  generalize vn n = V at *
  go_enter Try.func26, Try.ntmps26
  go_wp2_with fail
  refine HN.out.mono ?_
  rintro e w1 ⟨v, rfl, hm, hx⟩
  obtain ⟨B, c, ev, hc, _⟩ := hm.slice HSN.out
  subst ev
  have HM := Lib.hid hm
  have HX := Lib.hid hx
  clear hm hx
  obtain ⟨lv, hlv⟩ : ∃ lv, V.length = lv := ⟨_, rfl⟩
  have HLV := Lib.hid hlv
  rw [hlv] at HM hc HTEN ⊢
  clear hlv
  go_wp2_with (at_builtin; refine wpList_append_rd rfl (.tmp 6) (.tmp 7) rfl w.heap.size _ V s rfl HM.out A n ca rfl HL.out (HR.out.ext HX.out) (by rw [HLV.out, HL.out]; have := HTEN.out; omega) (by have := HX.out.size; omega) ?_; intro v' w3 hown' hg' hat'; rw [HVT.out] at hown'; have hx3 := HX.out.more hg' (fun r e => (HM.out.block r e).1); obtain ⟨Bv, cv, ev', hcv, _⟩ := hown'.slice HS.out; subst ev'; have HO := Lib.hid hown'; have HX3 := Lib.hid hx3; clear hown' hg' hat' hx3)
  go_ret
  exact ⟨_, rfl, HO.out, HX3.out⟩
end Go.Proofs.Ytlkaggjnfidliaa

/-
  Two digests are compared byte by byte. Conditions: none; no function is named here.
-/
namespace Go.Proofs.Ytlkaggjnfidliaa
open Go.RowKit
open Pol (co Sm)

theorem mapM_some {α β : Type} {F : α → Option β} {G : α → β} : ∀ (l : List α), (∀ x ∈ l, F x = some (G x)) → l.mapM F = some (l.map G)
  | [], _ => rfl
  | x :: l, h => by
    rw [List.mapM_cons, h x (by simp), mapM_some l (fun y hy => h y (by simp [hy]))]
    rfl
theorem drop_one (l : List Value) (i : Nat) (h : i < l.length) : (l.drop i).take 1 = [l[i]] := by
  rw [List.drop_eq_getElem_cons h]; rfl
theorem cells32 : Try.prog.cellsOf 40 = 32 := by kernel_rfl
theorem cells_u8 : Try.prog.cellsOf 5 = 1 := by kernel_rfl
theorem lit_u8 (n : Nat) (h : n < 256) (d : Nat) : Try.prog.keyLits (d + 1) 5 [.int .u8 (n : Int)] = some [.int .u8 (n : Int)] := by
  have hw : (Lit.int .u8 (n : Int)).wf = true := by
    simp [Lit.wf, IntKind.min, IntKind.max, IntKind.signed, IntKind.bits]
    omega
  simp [Program.keyLits, Try.underlying5, hw]
theorem lits32 (f : Nat → Nat) (hf : ∀ i, i < 32 → f i < 256) : Try.prog.keyLits 2 40 (bt 32 f).toList = some ((List.range 32).map fun i => [Lit.int .u8 ((f i : Nat) : Int)]).flatten := by
  have hl : (bt 32 f).toList.length = 32 := by simp [bt_size]
  have hm : (List.range 32).mapM (fun i => Try.prog.keyLits 1 5 (((bt 32 f).toList.drop (i * 1)).take 1)) = some ((List.range 32).map fun i => [Lit.int .u8 ((f i : Nat) : Int)]) := mapM_some _ fun i hi => by
    have hi := List.mem_range.1 hi
    rw [Nat.mul_one, drop_one _ i (by rw [hl]; exact hi), show (bt 32 f).toList[i]'(by rw [hl]; exact hi) = .int .u8 ((f i : Nat) : Int) from by
      have h := bt_at 32 f i hi
      rw [← Option.some_inj, ← List.getElem?_eq_getElem, ← h]
      simp]
    exact lit_u8 _ (hf i hi) 0
  unfold Program.keyLits
  rw [Try.underlying40]
  simp only [cells32, cells_u8, hl, if_true, hm, Option.map_some]
theorem flat_inj (f g : Nat → Nat) : ∀ n, ((List.range n).map fun i => [Lit.int .u8 ((f i : Nat) : Int)]).flatten = ((List.range n).map fun i => [Lit.int .u8 ((g i : Nat) : Int)]).flatten ↔ ∀ i, i < n → f i = g i := fun n => by
  have e : ∀ h : Nat → Nat, ((List.range n).map fun i => [Lit.int .u8 ((h i : Nat) : Int)]).flatten = (List.range n).map fun i => Lit.int .u8 ((h i : Nat) : Int) := fun h => by
    induction (List.range n) with
    | nil => rfl
    | cons x l ih => simp only [List.map_cons, List.flatten_cons, ih]; rfl
  rw [e, e]
  constructor
  · intro h i hi
    have h1 := congrArg (fun l => l[i]?) h
    simp only [List.getElem?_map, List.getElem?_range hi, Option.map_some, Option.some.injEq, Lit.int.injEq, true_and] at h1
    omega
  · intro h
    exact List.map_congr_left fun i hi => by rw [h i (List.mem_range.1 hi)]
theorem eq32 (f g : Nat → Nat) (hf : ∀ i, i < 32 → f i < 256) (hg : ∀ i, i < 32 → g i < 256) (w : World) : ∃ r : Bool, (Op.equalIn 10000 40 (.agg (bt 32 f)) (.agg (bt 32 g))).run Try.prog w = .ok r w ∧ (r = true ↔ ∀ i, i < 32 → f i = g i) := by
  have hk : Try.prog.keyTypeAt 2 40 = true := by kernel_rfl
  have hform : ∀ h : Nat → Nat, (Value.agg (bt 32 h)).formed Try.prog 40 = true := fun h => by
    simp [Value.formed, Try.underlying40, bt_size, cells32]
  obtain ⟨r, h1, h2⟩ := run_equalIn_deep 9998 2 40 hk w 2 2 (.agg (bt 32 f)) (.agg (bt 32 g)) _ _ (hform f) (hform g) (lits32 f hf) (lits32 g hg)
  exact ⟨r, h1, h2.trans (flat_inj f g 32)⟩
theorem eq32_same (f : Nat → Nat) (hf : ∀ i, i < 32 → f i < 256) (w : World) : (Op.equalIn 10000 40 (.agg (bt 32 f)) (.agg (bt 32 f))).run Try.prog w = .ok true w := by
  obtain ⟨r, h1, h2⟩ := eq32 f f hf hf w
  rw [h1, h2.2 (fun _ _ => rfl)]
end Go.Proofs.Ytlkaggjnfidliaa

/-
  The law CodecBack, walked, under what layer 8's functions are to do. Conditions: none.
-/
namespace Go.Proofs.Ytlkaggjnfidliaa
open Go.RowKit
open Pol (co Sm)

theorem blk_ne {a b o u : Nat} (h : a ≠ b) : (⟨b, o, none⟩ : Addr) ≠ ⟨a, u, none⟩ := fun e => h (by cases e; rfl)
/-- What holds ahead of a step. -/
structure BkI (I : Rdr) (lo hi g g2 : Nat) (B : Option Addr) (ρ : Addr) (gv : Value) (r : List Nat) (w0 wS w : World) : Prop where
  ri : I.RI lo hi B ρ w r
  cg : w.cell? ⟨g, 0, none⟩ = some gv
  c2 : w.cell? ⟨g2, 0, none⟩ = some (.bool true)
  z2 : w.frozen? ⟨g2, 0, none⟩ = false
  ext : Ext w0 w
  only : Only (fun k => Btw lo hi k ∨ k = g2) wS w
theorem BkI.reads {I : Rdr} {lo hi g g2 : Nat} {B : Option Addr} {ρ : Addr} {gv : Value} {r r' : List Nat} {w0 wS w w' : World} (h : BkI I lo hi g g2 B ρ gv r w0 wS w) (hr : I.RI lo hi B ρ w' r') (ho : Only (Btw lo hi) w w') (hg : g < lo) (hg2 : g2 < lo) (hlo : w0.heap.size ≤ lo) : BkI I lo hi g g2 B ρ gv r' w0 wS w' :=
  have n1 : ¬ Btw lo hi g := fun h => by have := h.1; omega
  have n2 : ¬ Btw lo hi g2 := fun h => by have := h.1; omega
  ⟨hr, ho.cell h.cg n1, ho.cell h.c2 n2, (ho.frozen (o := 0) (block_lt_of_cell h.c2) n2).trans h.z2, only_btw_ext ho h.ext hlo, h.only.trans (ho.mono fun _ _ h => .inl h)⟩
theorem BkI.more {I : Rdr} (C : CodecSaid I) {lo hi g g2 : Nat} {B : Option Addr} {ρ : Addr} {gv : Value} {r : List Nat} {w0 wS w w' : World} (h : BkI I lo hi g g2 B ρ gv r w0 wS w) (hx : Ext w w') (hhi : hi ≤ w.heap.size) (hB : ∀ k o, B = some ⟨k, o, none⟩ → k < w.heap.size) : BkI I lo hi g g2 B ρ gv r w0 wS w' :=
  ⟨C.keep lo hi B ρ w w' r h.ri (fun k hk => hx.below.block k (by have := hk.2; omega)) (fun k o e => hx.below.block k (hB k o e)), (hx.below.cell (p := ⟨g, 0, none⟩) (block_lt_of_cell h.cg)).trans h.cg, (hx.below.cell (p := ⟨g2, 0, none⟩) (block_lt_of_cell h.c2)).trans h.c2, (hx.below.frozen (p := ⟨g2, 0, none⟩) (block_lt_of_cell h.c2)).trans h.z2, h.ext.trans hx, h.only.trans (Only.of_ext hx)⟩
theorem BkI.store {I : Rdr} (C : CodecSaid I) {lo hi g g2 : Nat} {B : Option Addr} {ρ : Addr} {gv : Value} {r : List Nat} {w0 wS w : World} (h : BkI I lo hi g g2 B ρ gv r w0 wS w) (hg2 : g2 < lo) (hgg : g ≠ g2) (hg0 : w0.heap.size ≤ g2) (hB : ∀ k o, B = some ⟨k, o, none⟩ → k < lo ∧ k ≠ g2) : BkI I lo hi g g2 B ρ gv r w0 wS (w.setCell ⟨g2, 0, none⟩ (.bool true)) :=
  ⟨C.keep lo hi B ρ w _ r h.ri (fun k hk => Below.heap_setCell _ _ _ k (by have := hk.1; show k ≠ g2; omega)) (fun k o e => Below.heap_setCell _ _ _ k (hB k o e).2), (World.cell?_setCell_other _ _ _ _ (blk_ne hgg)).trans h.cg, World.cell?_setCell_same' _ _ _ (by rw [h.c2]; rfl), by rw [World.frozen?_setCell]; exact h.z2, h.ext.setCell (p := ⟨g2, 0, none⟩) hg0 _, h.only.trans (Only.of_grown (grown_set' _ _ _ _) (fun k e => by cases e; exact .inr rfl))⟩
def BkJ (lo hi g2 : Nat) (wS w : World) (y : By) : Prop := y = .done [] ∧ w.cell? ⟨g2, 0, none⟩ = some (.bool true) ∧ Only (fun k => Btw lo hi k ∨ k = g2) wS w

set_option maxHeartbeats 6400000 in
set_option maxRecDepth 100000 in
theorem back8_by (I : Rdr) (C : CodecSaid I) (lo hi g g2 : Nat) (B A : Option Addr) (ρ : Addr) (l : List (Int × Nat × List Nat)) (ca : Nat) (w0 w : World) (hI : I.RI lo hi B ρ w (laidF l 0 l.length)) (hc : w.cell? ⟨g, 0, none⟩ = some (.slice A l.length ca)) (hc2 : w.cell? ⟨g2, 0, none⟩ = some (.bool true)) (hz2 : w.frozen? ⟨g2, 0, none⟩ = false) (hT : TRd w0 A l) (hfs : FewS l l.length) (hx : Ext w0 w) (hg : g < lo) (hg2 : g2 < lo) (hgg : g ≠ g2) (hg0 : w0.heap.size ≤ g2) (hhi : hi ≤ w.heap.size) (hlo : lo ≤ hi) (hB : ∀ k o, B = some ⟨k, o, none⟩ → k < lo ∧ k ≠ g2) (hl : l.length ≤ 30) :
    Calls Try.prog 27 #[.pointer (some ρ), .pointer (some ⟨g, 0, none⟩), .pointer (some ⟨g2, 0, none⟩)] w (ByE I lo hi B ρ (fun _ w' y => BkJ lo hi g2 w w' y)) := by
  have HC := Lib.hid C
  have HI := Lib.hid (show BkI I lo hi g g2 B ρ (.slice A l.length ca) (laidF l 0 l.length) w0 w w from ⟨hI, hc, hc2, hz2, hx, Only.refl _ _⟩)
  have HT := Lib.hid hT
  have HB := Lib.hid hB
  have HFS := Lib.hid hfs
  have HSTEP := Lib.hid (fun k m => show laidF l k (m + 1) = (if kd l k = 1 then vn (nb l k) else if kd l k = 2 then vt (sb l k) else if kd l k = 3 then dig (sb l k) else []) ++ laidF l (k + 1) m from rfl)
  have hlo0 : w0.heap.size ≤ lo := by omega
  clear C hI hT hx hz2 hB hfs
  generalize hn : l.length = n at *
  have HN := Lib.hid hn
  clear hn
  go_enter Try.func27, Try.ntmps27
  go_wp2
  clear hc hc2
  go_loopg [7] n (fun gh s7 wx => ∃ k : Nat, k + gh = n ∧ s7 = .int .i64 (k : Int) ∧ BkI I lo hi g g2 B ρ (.slice A n ca) (laidF l k gh) w0 w wx ∧ hi ≤ wx.heap.size)
  case atStart => exact ⟨0, by omega, rfl, HI.out, hhi⟩
  case round =>
    obtain ⟨k, hkg, rfl, hbi, hhr⟩ := hrel
    have HBI := Lib.hid hbi
    have hcg := hbi.cg
    have HX1 := Lib.hid hbi.ext
    clear hbi
    cases gk with
    | zero =>
      obtain rfl : k = n := by omega
      clear hkg
      go_wp2
      go_end0
      exact .inl ⟨[], _, rfl, HBI.out.ri, rfl, HBI.out.c2, HBI.out.only⟩
    | succ gh =>
      have hk : k < n := by omega
      have hkI : (k : Int) < (n : Int) := by omega
      obtain ⟨b1, o1, B1, c1, e1, hc1, hc2, hc3, hcc, hr1, hnb, hfar⟩ := HT.out.at HX1.out k (by rw [HN.out]; exact hk)
      have hbl1 := block_lt_of_cell hc1
      have hb1 : b1 < w0.heap.size := by
        obtain ⟨b', o', _, _, e', hc', _⟩ := HT.out k (by rw [HN.out]; exact hk)
        rw [e1] at e'
        injection e' with e'
        injection e' with e' _
        rw [e']
        exact block_lt_of_cell hc'
      subst e1
      have hst := HSTEP.out k gh
      have h60 := HFS.out k hk
      obtain ⟨q, hq⟩ : ∃ q, kd l k = q := ⟨_, rfl⟩
      obtain ⟨x, hxx⟩ : ∃ x, nb l k = x := ⟨_, rfl⟩
      obtain ⟨t, ht⟩ : ∃ t, sb l k = t := ⟨_, rfl⟩
      rw [hq] at hc1 hst
      rw [hxx] at hc2 hnb hst
      rw [ht] at hc3 hcc hr1 hfar h60 hst
      have HSBT := Lib.hid ht
      clear hq hxx ht
      obtain ⟨R, hR⟩ : ∃ R, laidF l (k + 1) gh = R := ⟨_, rfl⟩
      rw [hR] at hst
      have HRR := Lib.hid hR
      have HR1 := Lib.hid hr1
      have HB0 := Lib.hid (show ∀ j W, Only (Btw lo hi) wr W → ∀ v, wr.cell? ⟨b1, j, none⟩ = some v → W.cell? ⟨b1, j, none⟩ = some v from fun j W ho v hv => ho.cell hv (fun h => by have := h.1; omega))
      have HC2 := Lib.hid hc2
      have HC3 := Lib.hid hc3
      clear hR hr1 hfar
      by_cases h1 : q = 1
      · subst h1
        rw [if_pos rfl] at hst
        have HL := Lib.hid (fun W (hW : I.RI lo hi B ρ W (vn x ++ R)) => show Calls Try.prog 12 #[.pointer (some ρ), .int .u64 18446744073709551615] W (fun e w' => e = .returned (.int .u64 (x : Int)) ∧ I.RI lo hi B ρ w' R ∧ Only (Btw lo hi) W w') from by
          have h := HC.out.number lo hi B ρ W _ 18446744073709551615 hW (by omega)
          rw [rdN_vn _ _ _ hnb, if_neg (by omega)] at h
          exact h.mono fun e w' ⟨ho, v, h1, h2, h3⟩ => ⟨by rw [h1, h2], h3, ho⟩)
        rw [hst] at HBI
        clear hc3 hst
        have HA0 := Lib.hid (show BkI I lo hi g g2 B ρ (.slice (some ⟨b1, o1, none⟩) n ca) (vn x ++ R) w0 w wr.drew from ⟨HC.out.keep lo hi B ρ wr wr.drew _ HBI.out.ri (fun _ _ => rfl) (fun _ _ _ => rfl), HBI.out.cg, HBI.out.c2, HBI.out.z2, HBI.out.ext.drew, HBI.out.only.drewN 1⟩)
        go_wp2
        refine wp_region_stab (fun W => Two ⟨g, 0, none⟩ (.slice (some ⟨b1, o1, none⟩) n ca) ⟨b1, o1 + k * 3 + 1, none⟩ (.int .u64 (x : Int)) W) [0, 1, 2, 3, 4, 5, 6] [(0, true), (2, true), (3, true), (4, true), (5, true), (6, true), (1, false), (7, false), (8, false), (9, false), (10, false), (11, false)] (by kernel_rfl) (fun c a a' w e h => ⟨e ▸ h.1, h.2⟩) (by kernel_rfl) ⟨hcg, hc2⟩ ?_
        refine stab_yes rfl (fun K hK => ?_)
        go_simp
        refine ⟨_, fun _ _ => rfl, hK _ ?_⟩
        clear hK K
        refine stab_yes rfl (fun K hK => ?_)
        go_simp
        refine ⟨(.slice (some ⟨b1, o1, none⟩) n ca), fun W hW => ?_, hK _ ?_⟩
        focus (have h1 := hW.1; go_simp; done)
        clear hK K
        refine stab_yes rfl (fun K hK => ?_)
        go_simp
        refine ⟨_, fun _ _ => rfl, hK _ ?_⟩
        clear hK K
        refine stab_yes rfl (fun K hK => ?_)
        go_simp
        refine ⟨_, fun _ _ => rfl, hK _ ?_⟩
        clear hK K
        refine stab_yes rfl (fun K hK => ?_)
        go_simp
        refine ⟨_, fun _ _ => rfl, hK _ ?_⟩
        clear hK K
        refine stab_yes rfl (fun K hK => ?_)
        go_simp
        refine ⟨(.int .u64 (x : Int)), fun W hW => ?_, hK _ ?_⟩
        focus (have h1 := hW.2; go_simp; done)
        clear hK K
        refine stab_one rfl (fun K hK => ?_)
        go_wp2_with fail
        refine (HL.out wr.drew HA0.out.ri).mono ?_
        rintro e w1 ⟨rfl, hi2, ho1⟩
        have HA1 := Lib.hid (HA0.out.reads hi2 ho1 hg hg2 hlo0)
        have HCC := Lib.hid (show Two ⟨g, 0, none⟩ (.slice (some ⟨b1, o1, none⟩) n ca) ⟨b1, o1 + k * 3 + 1, none⟩ (.int .u64 (x : Int)) w1 from ⟨HA1.out.cg, HB0.out _ w1 ⟨ho1.os, ho1.tape, ho1.output, ho1.size, ho1.block⟩ _ HC2.out⟩)
        have hhi1 : hi ≤ w1.heap.size := Nat.le_trans hhr ho1.size
        have c2 := HA1.out.c2
        have z2 := HA1.out.z2
        have HA3 := Lib.hid (HA1.out.store HC.out hg2 hgg hg0 HB.out)
        clear hi2 ho1
        go_wp2
        refine ⟨fun _ => HCC.out, ?_⟩
        refine stab_one rfl (fun K hK => ?_)
        go_wp2
        refine ⟨fun h => absurd h (by decide), ?_⟩
        refine stab_one rfl (fun K hK => ?_)
        go_wp2
        refine ⟨fun h => absurd h (by decide), ?_⟩
        refine stab_one rfl (fun K hK => ?_)
        go_wp2
        refine ⟨fun h => absurd h (by decide), ?_⟩
        refine stab_one rfl (fun K hK => ?_)
        go_wp2
        refine ⟨fun h => absurd h (by decide), ?_⟩
        refine stab_one rfl (fun K hK => ?_)
        go_wp2
        refine ⟨fun h => absurd h (by decide), ?_⟩
        unfold wpStab
        go_wp2
        go_roundg gh
        case measure => omega
        case rel => exact ⟨k + 1, by omega, by go_num, by rw [HRR.out]; exact HA3.out, by simp [World.setCell]; exact hhi1⟩
      have t1 : (q == 1) = false := beq_eq_false_iff_ne.2 h1
      rw [if_neg h1] at hst
      obtain ⟨tl, htl⟩ : ∃ tl, t.length = tl := ⟨_, rfl⟩
      rw [htl] at hc3 HC3 hcc h60
      have HTL := Lib.hid htl
      clear htl
      by_cases h2 : q = 2
      · subst h2
        rw [if_pos rfl] at hst
        have HL := Lib.hid (fun W (hW : I.RI lo hi B ρ W (vt t ++ R)) => show Calls Try.prog 14 #[.pointer (some ρ), .int .i64 60] W (fun e w' => ∃ Bt ct, e = .returned (.slice Bt tl ct) ∧ Rd w' Bt t ∧ I.RI lo hi B ρ w' R ∧ Only (Btw lo hi) W w') from by
          have h := HC.out.text lo hi B ρ W _ 60 hW (by omega)
          rw [rdT_vt _ _ _ (by rw [HTL.out]; omega), if_neg (by rw [HTL.out]; omega)] at h
          exact h.mono fun e w' ⟨ho, v, h1, ⟨Bt, ct, h2, _, h4, _⟩, h3⟩ => ⟨Bt, ct, by rw [h1, h2, HTL.out], h4, h3, ho⟩)
        rw [hst] at HBI
        clear hc2 hst
        have HA0 := Lib.hid (show BkI I lo hi g g2 B ρ (.slice (some ⟨b1, o1, none⟩) n ca) (vt t ++ R) w0 w wr.drew from ⟨HC.out.keep lo hi B ρ wr wr.drew _ HBI.out.ri (fun _ _ => rfl) (fun _ _ _ => rfl), HBI.out.cg, HBI.out.c2, HBI.out.z2, HBI.out.ext.drew, HBI.out.only.drewN 1⟩)
        go_wp2
        refine wp_region_stab (fun W => Two ⟨g, 0, none⟩ (.slice (some ⟨b1, o1, none⟩) n ca) ⟨b1, o1 + k * 3 + 2, none⟩ (.slice B1 tl c1) W) [0, 1, 2, 3, 4, 5, 6] [(0, true), (2, true), (3, true), (4, true), (5, true), (6, true), (1, false), (7, false), (8, false), (9, false), (10, false), (11, false)] (by kernel_rfl) (fun c a a' w e h => ⟨e ▸ h.1, h.2⟩) (by kernel_rfl) ⟨hcg, hc3⟩ ?_
        refine stab_yes rfl (fun K hK => ?_)
        go_simp
        refine ⟨_, fun _ _ => rfl, hK _ ?_⟩
        clear hK K
        refine stab_yes rfl (fun K hK => ?_)
        go_simp
        refine ⟨(.slice (some ⟨b1, o1, none⟩) n ca), fun W hW => ?_, hK _ ?_⟩
        focus (have h1 := hW.1; go_simp; done)
        clear hK K
        refine stab_yes rfl (fun K hK => ?_)
        go_simp
        refine ⟨_, fun _ _ => rfl, hK _ ?_⟩
        clear hK K
        refine stab_yes rfl (fun K hK => ?_)
        go_simp
        refine ⟨_, fun _ _ => rfl, hK _ ?_⟩
        clear hK K
        refine stab_yes rfl (fun K hK => ?_)
        go_simp
        refine ⟨_, fun _ _ => rfl, hK _ ?_⟩
        clear hK K
        refine stab_yes rfl (fun K hK => ?_)
        go_simp
        refine ⟨(.slice B1 tl c1), fun W hW => ?_, hK _ ?_⟩
        focus (have h1 := hW.2; go_simp; done)
        clear hK K
        refine stab_one rfl (fun K hK => ?_)
        go_wp2_with fail
        refine (HL.out wr.drew HA0.out.ri).mono ?_
        rintro e w1 ⟨Bt, ct, rfl, hrt, hi2, ho1⟩
        have HA1 := Lib.hid (HA0.out.reads hi2 ho1 hg hg2 hlo0)
        have HCC := Lib.hid (show Two ⟨g, 0, none⟩ (.slice (some ⟨b1, o1, none⟩) n ca) ⟨b1, o1 + k * 3 + 2, none⟩ (.slice B1 tl c1) w1 from ⟨HA1.out.cg, HB0.out _ w1 ⟨ho1.os, ho1.tape, ho1.output, ho1.size, ho1.block⟩ _ HC3.out⟩)
        have hhi1 : hi ≤ w1.heap.size := Nat.le_trans hhr ho1.size
        obtain ⟨_, _, B9, c9, e9, _, _, h93, _, h94, _⟩ := HT.out.at HA1.out.ext k (by rw [HN.out]; exact hk)
        have hsame := same_tells t Bt B1 ct c1 w1 hrt (by
          injection e9 with e9
          injection e9 with e9 e9'
          have h := HCC.out.2
          rw [e9, e9', h93] at h
          injection h with h
          injection h with h _ _
          rw [← h]
          exact HSBT.out ▸ h94) (by rw [HTL.out]; omega)
        rw [HTL.out] at hsame
        have HSA := Lib.hid hsame
        clear hi2 ho1 hrt hsame e9 h93 h94
        go_wp2
        refine ⟨fun _ => HCC.out, ?_⟩
        refine stab_one rfl (fun K hK => ?_)
        go_wp2_with fail
        refine HSA.out.mono ?_
        rintro e w2 ⟨rfl, hx2⟩
        have HA2 := Lib.hid (HA1.out.more HC.out hx2 hhi1 (fun k o e => by have := (HB.out k o e).1; omega))
        have hhi2 : hi ≤ w2.heap.size := Nat.le_trans hhi1 hx2.size
        have c2 := HA2.out.c2
        have z2 := HA2.out.z2
        have HA3 := Lib.hid (HA2.out.store HC.out hg2 hgg hg0 HB.out)
        clear hx2
        go_wp2
        refine ⟨fun h => absurd h (by decide), ?_⟩
        refine stab_one rfl (fun K hK => ?_)
        go_wp2
        refine ⟨fun h => absurd h (by decide), ?_⟩
        refine stab_one rfl (fun K hK => ?_)
        go_wp2
        refine ⟨fun h => absurd h (by decide), ?_⟩
        refine stab_one rfl (fun K hK => ?_)
        go_wp2
        refine ⟨fun h => absurd h (by decide), ?_⟩
        refine stab_one rfl (fun K hK => ?_)
        go_wp2
        refine ⟨fun h => absurd h (by decide), ?_⟩
        unfold wpStab
        go_wp2
        go_roundg gh
        case measure => omega
        case rel => exact ⟨k + 1, by omega, by go_num, by rw [HRR.out]; exact HA3.out, by simp [World.setCell]; exact hhi2⟩
      have t2 : (q == 2) = false := beq_eq_false_iff_ne.2 h2
      rw [if_neg h2] at hst
      by_cases h3 : q = 3
      · subst h3
        rw [if_pos rfl] at hst
        have HL := Lib.hid (fun W (hW : I.RI lo hi B ρ W (dig t ++ R)) => show Calls Try.prog 18 #[.pointer (some ρ)] W (fun e w' => e = .returned (dg (dig t)) ∧ I.RI lo hi B ρ w' R ∧ Only (Btw lo hi) W w') from by
          have h := HC.out.digest lo hi B ρ W _ hW
          have h32 := rdB_app (dig t) R
          rw [dig_len] at h32
          rw [h32] at h
          exact h.mono fun e w' ⟨ho, v, h1, h2, h3⟩ => ⟨by rw [h1, h2], h3, ho⟩)
        rw [hst] at HBI
        clear hc2 hst
        have HA0 := Lib.hid (show BkI I lo hi g g2 B ρ (.slice (some ⟨b1, o1, none⟩) n ca) (dig t ++ R) w0 w wr.drew from ⟨HC.out.keep lo hi B ρ wr wr.drew _ HBI.out.ri (fun _ _ => rfl) (fun _ _ _ => rfl), HBI.out.cg, HBI.out.c2, HBI.out.z2, HBI.out.ext.drew, HBI.out.only.drewN 1⟩)
        go_wp2
        refine wp_region_stab (fun W => Two ⟨g, 0, none⟩ (.slice (some ⟨b1, o1, none⟩) n ca) ⟨b1, o1 + k * 3 + 2, none⟩ (.slice B1 tl c1) W) [0, 1, 2, 3, 4, 5, 6] [(0, true), (2, true), (3, true), (4, true), (5, true), (6, true), (1, false), (7, false), (8, false), (9, false), (10, false), (11, false), (12, false)] (by kernel_rfl) (fun c a a' w e h => ⟨e ▸ h.1, h.2⟩) (by kernel_rfl) ⟨hcg, hc3⟩ ?_
        refine stab_yes rfl (fun K hK => ?_)
        go_simp
        refine ⟨_, fun _ _ => rfl, hK _ ?_⟩
        clear hK K
        refine stab_yes rfl (fun K hK => ?_)
        go_simp
        refine ⟨(.slice (some ⟨b1, o1, none⟩) n ca), fun W hW => ?_, hK _ ?_⟩
        focus (have h1 := hW.1; go_simp; done)
        clear hK K
        refine stab_yes rfl (fun K hK => ?_)
        go_simp
        refine ⟨_, fun _ _ => rfl, hK _ ?_⟩
        clear hK K
        refine stab_yes rfl (fun K hK => ?_)
        go_simp
        refine ⟨_, fun _ _ => rfl, hK _ ?_⟩
        clear hK K
        refine stab_yes rfl (fun K hK => ?_)
        go_simp
        refine ⟨_, fun _ _ => rfl, hK _ ?_⟩
        clear hK K
        refine stab_yes rfl (fun K hK => ?_)
        go_simp
        refine ⟨(.slice B1 tl c1), fun W hW => ?_, hK _ ?_⟩
        focus (have h1 := hW.2; go_simp; done)
        clear hK K
        refine stab_one rfl (fun K hK => ?_)
        go_wp2_with fail
        refine (HL.out wr.drew HA0.out.ri).mono ?_
        rintro e w1 ⟨rfl, hi2, ho1⟩
        have HA1 := Lib.hid (HA0.out.reads hi2 ho1 hg hg2 hlo0)
        have HCC := Lib.hid (show Two ⟨g, 0, none⟩ (.slice (some ⟨b1, o1, none⟩) n ca) ⟨b1, o1 + k * 3 + 2, none⟩ (.slice B1 tl c1) w1 from ⟨HA1.out.cg, HB0.out _ w1 ⟨ho1.os, ho1.tape, ho1.output, ho1.size, ho1.block⟩ _ HC3.out⟩)
        have hhi1 : hi ≤ w1.heap.size := Nat.le_trans hhr ho1.size
        obtain ⟨_, _, B9, c9, e9, _, _, h93, _, h94, _⟩ := HT.out.at HA1.out.ext k (by rw [HN.out]; exact hk)
        have hdig := law8_digest t B1 c1 w1 (by
          injection e9 with e9
          injection e9 with e9 e9'
          have h := HCC.out.2
          rw [e9, e9', h93] at h
          injection h with h
          injection h with h _ _
          rw [← h]
          exact HSBT.out ▸ h94) (by rw [HTL.out]; omega)
        rw [HTL.out] at hdig
        have HSA := Lib.hid hdig
        clear hi2 ho1 hdig e9 h93 h94
        have heq : ∀ W, (Op.equalIn 10000 40 (.agg (bv (dig t)).toArray) (.agg (bv (dig t)).toArray)).run Try.prog W = .ok true W := fun W => by
          rw [← bt_dig]
          exact eq32_same _ (fun i _ => HR1.out.1 i) W
        unfold dg at HSA ⊢
        generalize (bv (dig t)).toArray = V at HSA heq ⊢
        go_wp2
        refine ⟨fun _ => HCC.out, ?_⟩
        refine stab_one rfl (fun K hK => ?_)
        go_wp2_with fail
        refine HSA.out.mono ?_
        rintro e w2 ⟨rfl, hx2⟩
        have HA2 := Lib.hid (HA1.out.more HC.out hx2 hhi1 (fun k o e => by have := (HB.out k o e).1; omega))
        have hhi2 : hi ≤ w2.heap.size := Nat.le_trans hhi1 hx2.size
        have c2 := HA2.out.c2
        have z2 := HA2.out.z2
        have HA3 := Lib.hid (HA2.out.store HC.out hg2 hgg hg0 HB.out)
        clear hx2
        go_wp2
        refine ⟨fun h => absurd h (by decide), ?_⟩
        refine stab_one rfl (fun K hK => ?_)
        go_wp2
        refine ⟨fun h => absurd h (by decide), ?_⟩
        refine stab_one rfl (fun K hK => ?_)
        go_wp2
        refine ⟨fun h => absurd h (by decide), ?_⟩
        refine stab_one rfl (fun K hK => ?_)
        go_wp2
        refine ⟨fun h => absurd h (by decide), ?_⟩
        refine stab_one rfl (fun K hK => ?_)
        go_wp2
        refine ⟨fun h => absurd h (by decide), ?_⟩
        refine stab_one rfl (fun K hK => ?_)
        go_wp2
        refine ⟨fun h => absurd h (by decide), ?_⟩
        unfold wpStab
        go_wp2
        go_roundg gh
        case measure => omega
        case rel => exact ⟨k + 1, by omega, by go_num, by rw [HRR.out]; exact HA3.out, by simp [World.setCell]; exact hhi2⟩
      have t3 : (q == 3) = false := beq_eq_false_iff_ne.2 h3
      rw [if_neg h3, List.nil_append] at hst
      rw [hst] at HBI
      clear hc2 hc3 hst h1 h2 h3
      go_wp2
      go_roundg gh
      case measure => omega
      case rel => exact ⟨k + 1, by omega, by go_num, by rw [HRR.out]; exact HBI.out, hhr⟩
end Go.Proofs.Ytlkaggjnfidliaa

/-
  The law CodecBack itself, walked, under what layer 8's functions are to do. Conditions: none.
-/
namespace Go.Proofs.Ytlkaggjnfidliaa
open Go.RowKit
open Pol (co Sm)

/-- d[:] of a digest in a variable. -/
theorem run_all32 (g : Nat) (W : World) : (Instr.sliceAt 40 (.pointer (some ⟨g, 0, none⟩)) none none none).run Try.prog W = .ok (.slice (some ⟨g, 0, none⟩) 32 32) W := by
  obtain ⟨i0, hi, hz0, hz1, hz2⟩ := info_parts u8_info
  have he : Try.prog.elem 40 = 5 := by kernel_rfl
  have hl : Try.prog.arrayLen 40 = 32 := by kernel_rfl
  rw [run_sliceAt_array_all W 40 _ (by rw [he, hl]; exact Try.underlying40), he, hl]
  simp [sizeOf, typeInfo, hi, hz1, Result.andThen, slicedAt, addr_add]
theorem rd32 {w : World} {g : Nat} {s : List Nat} (h : w.heap[g]? = some (.cells (bv (dig s)).toArray 40 (0, 0))) (hs : Sm s) : Rd w (some ⟨g, 0, none⟩) (dig s) :=
  ⟨dig_sm hs, fun i hi => ⟨g, 0, rfl, by
    rw [dig_len] at hi
    rw [← bt_dig] at h
    have hc := DBlk.cell (f := co s) h i hi
    rw [Nat.zero_add, hc]
    unfold dig
    rw [co_tab, if_pos hi]⟩⟩

set_option maxHeartbeats 6400000 in
set_option maxRecDepth 100000 in
theorem back8_walk (I : Rdr) (C : CodecSaid I) (l : List (Int × Nat × List Nat)) (A : Option Addr) (ca : Nat) (w : World) (hT : TRd w A l) (hla : l.length ≤ 9223372036854775807) :
    Calls Try.prog 4 #[.slice A l.length ca] w (Holds w) := by
  have hmf : ∀ (fn : Fn) (first cap : Array Value) (w : World), (Instr.makeFunc fn first cap).run Try.prog w = .ok (.func fn first cap) w := fun _ _ _ _ => rfl
  have HAW := Lib.hid (fun u => awake8 I C u)
  have HFE := Lib.hid (fun u (hx : Ext w u) => law8_few l A ca u (hT.ext hx) hla)
  have HLA := Lib.hid (fun u (hx : Ext w u) h => law8_lay I C l A ca u (hT.ext hx) h)
  have HSM := Lib.hid (laid_sm (l := l) (fun i => hT.sm i))
  have HLN := Lib.hid (fun (hs : FewS l l.length) => laid_len (l := l) (fun i => hT.nb_lt i) hs)
  have HST := Lib.hid (fun i => show laid l (i + 1) = laid l i ++ (if kd l i = 1 then vn (nb l i) else if kd l i = 2 then vt (sb l i) else if kd l i = 3 then dig (sb l i) else []) from rfl)
  have HRD := Lib.hid (fun g g2 B cb (u : World) (hr : Rd u B (laid l l.length)) (hcb : (laid l l.length).length ≤ cb) (hln : (laid l l.length).length ≤ 65536) (hx : Ext w u) (hfs : FewS l l.length) (hl : l.length ≤ 30) (hc : u.cell? ⟨g, 0, none⟩ = some (.slice A l.length ca)) (hc2 : u.cell? ⟨g2, 0, none⟩ = some (.bool true)) (hz2 : u.frozen? ⟨g2, 0, none⟩ = false) (hgg : g ≠ g2) (hg0 : w.heap.size ≤ g2) (hB : ∀ k o, B = some ⟨k, o, none⟩ → 0 < (laid l l.length).length → k ≠ g2) =>
    show Calls Try.prog 10 #[.slice B (laid l l.length).length cb, .func (.func 27) #[] #[.pointer (some ⟨g, 0, none⟩), .pointer (some ⟨g2, 0, none⟩)]] u (ReadE (fun hi w' y => BkJ u.heap.size hi g2 u w' y) u) from
    C.read (laid l l.length) B cb _ _ u _ ⟨_, _, Try.func27, rfl, by kernel_rfl⟩ hr hcb hln (fun hi ρ w1 hx1 hlo hhi hI =>
      (back8_by I C u.heap.size hi g g2 (nz (laid l l.length) B) A ρ l ca w w1 (by rw [laid_all]; exact hI) ((hx1.below.cell (p := ⟨g, 0, none⟩) (block_lt_of_cell hc)).trans hc) ((hx1.below.cell (p := ⟨g2, 0, none⟩) (block_lt_of_cell hc2)).trans hc2) ((hx1.below.frozen (p := ⟨g2, 0, none⟩) (block_lt_of_cell hc2)).trans hz2) hT hfs (hx.trans hx1) (block_lt_of_cell hc) (block_lt_of_cell hc2) hgg hg0 hhi hlo (fun k o e => ⟨hr.block' k o (nz_some e).1 (nz_some e).2, hB k o (nz_some e).1 (nz_some e).2⟩) hl).mono fun e w2 h => ByE.mono h (fun w3 y hJ => ⟨hJ.1, hJ.2.1, (Only.of_ext hx1).trans hJ.2.2⟩)))
  have HT := Lib.hid hT
  clear C hT
  unfold FewE at HFE
  unfold LayE at HLA
  generalize hn : l.length = n at *
  have HN := Lib.hid hn
  clear hn
  have HX0 := Lib.hid (show Ext w (w.alloc (.cells #[.slice A n ca] 23)) from (Ext.refl w).alloc _)
  have HC0 := Lib.hid (show (w.alloc (.cells #[.slice A n ca] 23)).cell? ⟨w.heap.size, 0, none⟩ = some (.slice A n ca) from by rw [cell_of_row _ _ _ _ _ _ (heap_alloc_new w _)]; rfl)
  go_enter Try.func4, Try.ntmps4
  go_wp2_with fail
  refine (HAW.out _).mono ?_
  rintro e w1 ⟨rfl, hx1⟩
  have HX1 := Lib.hid (HX0.out.trans hx1)
  have HC1 := Lib.hid ((hx1.below.cell (p := ⟨w.heap.size, 0, none⟩) (block_lt_of_cell HC0.out)).trans HC0.out)
  have c1 := HC1.out
  have hgs : w.heap.size < w1.heap.size := block_lt_of_cell HC1.out
  clear hx1 HC0
  obtain ⟨g0, hg0⟩ : ∃ g0, w.heap.size = g0 := ⟨_, rfl⟩
  rw [hg0] at c1 hgs HC1 ⊢
  go_wp2_with fail
  refine (HFE.out w1 HX1.out).mono ?_
  rintro e w2 (⟨⟨hfs, h30⟩, rfl, rfl⟩ | ⟨hno, rfl, rfl⟩)
  · have HFS := Lib.hid hfs
    clear hfs
    go_wp2_with fail
    refine (HLA.out w1 HX1.out ⟨HFS.out, h30⟩).mono ?_
    rintro e w3 ⟨v, rfl, hm3, hx3⟩
    obtain ⟨Bl, cl, ev, hcl, hrl⟩ := hm3.slice (HSM.out n)
    subst ev
    have HX3 := Lib.hid (HX1.out.trans hx3)
    have HC3 := Lib.hid ((hx3.below.cell (p := ⟨g0, 0, none⟩) (block_lt_of_cell HC1.out)).trans HC1.out)
    have HR3 := Lib.hid hrl
    have c3 := HC3.out
    have hgs3 : g0 < w3.heap.size := block_lt_of_cell HC3.out
    clear hm3 hx3 hrl c1
    obtain ⟨ll, hll⟩ : ∃ ll, (laid l n).length = ll := ⟨_, rfl⟩
    have HLL := Lib.hid hll
    rw [hll] at hcl ⊢
    have hll2 : ll ≤ 2100 := by have := HLN.out HFS.out n (Nat.le_refl _); omega
    clear hll
    go_wp2
    go_loopg [4, 21] n (fun gh s4 s21 wx => ∃ (k : Nat) (Bk : Option Addr) (ck lk : Nat), k + gh = n ∧ s21 = .int .i64 (k : Int) ∧ s4 = .slice Bk lk ck ∧ (laid l k).length = lk ∧ Mine wx w3.heap.size (.slice Bk lk ck) (laid l k) ∧ Ext w3 wx)
    case atStart => exact ⟨0, none, 0, 0, by omega, rfl, rfl, rfl, Mine.nil _ _, Ext.refl _⟩
    case round =>
      obtain ⟨k, Bk, ck, lk, hkg, rfl, rfl, hlk, hm, hx⟩ := hrel
      have HM := Lib.hid hm
      have HX := Lib.hid hx
      have HLK := Lib.hid hlk
      have cg := (hx.below.cell (p := ⟨g0, 0, none⟩) (block_lt_of_cell HC3.out)).trans HC3.out
      have HCG := Lib.hid cg
      clear hm hx hlk
      cases gk with
      | zero =>
        obtain rfl : k = n := by omega
        clear hkg
        obtain rfl : lk = ll := HLK.out.symm.trans HLL.out
        obtain ⟨Bk', ck', ek, hck, hrk⟩ := HM.out.slice (HSM.out k)
        rw [HLK.out] at ek hck
        injection ek with ek1 _ ek3
        subst ek1; subst ek3
        have HRK := Lib.hid hrk
        clear hrk c3
        have hrd := HRD.out g0 wr.heap.size Bl cl (wr.alloc (.cells #[.bool true] 4)) ((HR3.out.ext HX.out).ext ((Ext.refl _).alloc _)) (by rw [HLL.out]; exact hcl) (by rw [HLL.out]; omega) ((HX3.out.trans HX.out).alloc _) HFS.out h30 ((((Ext.refl wr).alloc (.cells #[.bool true] 4)).below.cell (p := ⟨g0, 0, none⟩) (block_lt_of_cell HCG.out)).trans HCG.out) (by rw [cell_of_row _ _ _ _ _ _ (heap_alloc_new wr _)]; rfl) (frozen_of_row _ _ _ _ _ (heap_alloc_new wr _)) (by have := block_lt_of_cell HCG.out; dsimp only at this; omega) (by have := HX.out.size; omega) (fun k o e h => by have := (HR3.out.ext HX.out).block' k o e h; omega)
        rw [HLL.out] at hrd
        have HRD1 := Lib.hid hrd
        clear hrd cg
        go_wp2_with fail
        refine HRD1.out.mono ?_
        rintro e w5 ⟨hi, w6, y, hhi, ⟨rfl, hc6, ho6⟩, ho5, he⟩
        obtain rfl : e = .returned (.int .i64 0) := he
        have hsz : (wr.alloc (.cells #[.bool true] 4)).heap.size = wr.heap.size + 1 := by simp
        rw [hsz] at hhi ho6 ho5
        have hx5 : Ext wr w5 := (ho6.trans (ho5.mono fun _ _ h => .inl h)).ext ((Ext.refl wr).alloc _) (fun k h => by rcases h with h | h; have := h.1; omega; omega)
        have c5 := ho5.cell hc6 (fun h => by have := h.1; omega)
        have HX5 := Lib.hid (HX3.out.trans (HX.out.trans hx5))
        have hsame := same_tells (laid l k) Bl Bk cl ck w5 (HR3.out.ext (HX.out.trans hx5)) (HRK.out.ext hx5) (by rw [HLL.out]; omega)
        rw [HLL.out] at hsame
        have HSA := Lib.hid hsame
        clear ho6 ho5 hx5 hsame hc6 hhi hsz
        go_wp2_with fail
        refine HSA.out.mono ?_
        rintro e w7 ⟨rfl, hx7⟩
        have HX7 := Lib.hid (HX5.out.trans hx7)
        clear hx7
        go_wp2
        go_ret
        exact ⟨rfl, HX7.out⟩
      | succ gh =>
        have hk : k < n := by omega
        have hkI : (k : Int) < (n : Int) := by omega
        obtain ⟨b1, o1, B1, c1, e1, hc1, hc2, hc3, hcc, hr1, hnb, _⟩ := HT.out.at (HX3.out.trans HX.out) k (by rw [HN.out]; exact hk)
        subst e1
        have hs := HST.out k
        have hlk := HLN.out HFS.out k (by omega)
        have hlk1 := HLN.out HFS.out (k + 1) (by omega)
        have h60 := HFS.out k hk
        have HS1 := Lib.hid (HSM.out (k + 1))
        obtain ⟨l1, hl1⟩ : ∃ l1, (laid l (k + 1)).length = l1 := ⟨_, rfl⟩
        have HL1 := Lib.hid hl1
        obtain ⟨q, hq⟩ : ∃ q, kd l k = q := ⟨_, rfl⟩
        obtain ⟨x, hxx⟩ : ∃ x, nb l k = x := ⟨_, rfl⟩
        obtain ⟨t, ht⟩ : ∃ t, sb l k = t := ⟨_, rfl⟩
        rw [HLK.out] at hlk
        rw [hq] at hc1 hs
        rw [hxx] at hc2 hnb hs
        rw [ht] at hc3 hcc hr1 h60 hs
        have HR1 := Lib.hid hr1
        obtain ⟨tl, htl⟩ : ∃ tl, t.length = tl := ⟨_, rfl⟩
        rw [htl] at hc3 hcc h60
        have HTL := Lib.hid htl
        have hsz3 := HX.out.size
        clear hq hxx ht hl1 hr1 htl c3
        by_cases h1 : q = 1
        · subst h1
          rw [if_pos rfl] at hs
          have HS := Lib.hid hs
          have HL := Lib.hid (ref8_number x wr hnb)
          unfold OwnE at HL
          have HSL := Lib.hid (show Sm (vn x) from (sm_split (by rw [← hs]; exact HS1.out)).2)
          have hl70 : ((vn x)).length ≤ 2100 := by have h := congrArg List.length hs; rw [List.length_append] at h; omega
          clear hs
          generalize (vn x) = E at *
          go_wp2_with fail
          refine HL.out.mono ?_
          rintro e w8 ⟨v8, rfl, hm8, hx8⟩
          obtain ⟨B8, c8, e8, _, hr8⟩ := hm8.slice HSL.out
          subst e8
          have HR8 := Lib.hid hr8
          have HX8 := Lib.hid hx8
          have hsz8 := hx8.size
          clear hm8 hx8 hr8
          obtain ⟨le, hle⟩ : ∃ le, E.length = le := ⟨_, rfl⟩
          have HLE := Lib.hid hle
          rw [hle] at hl70 ⊢
          clear hle
          go_wp2_with (at_builtin; refine wpList_append_rd rfl (.tmp 31) (.tmp 37) rfl w3.heap.size _ (laid l k) E rfl (mine_ext HM.out HX8.out) B8 le c8 rfl HLE.out HR8.out (by rw [HLK.out]; rw [HLE.out]; omega) (by omega) ?_; intro v' w9 hown' hg' hat'; rw [← HS.out] at hown'; have hx9 := (HX.out.trans HX8.out).more hg' (fun r e => (HM.out.block r e).1); obtain ⟨Bv, cv, ev', _, _⟩ := hown'.slice HS1.out; rw [HL1.out] at ev'; subst ev'; have HO := Lib.hid hown'; have HX9 := Lib.hid hx9; clear hown' hg' hat' hx9)
          go_roundg gh
          case measure => omega
          case rel => exact ⟨k + 1, Bv, cv, l1, by omega, by go_num, rfl, HL1.out, HO.out, HX9.out⟩
        have t1 : (q == 1) = false := beq_eq_false_iff_ne.2 h1
        rw [if_neg h1] at hs
        by_cases h2 : q = 2
        · subst h2
          rw [if_pos rfl] at hs
          have HS := Lib.hid hs
          have HL := Lib.hid (HTL.out ▸ ref8_text t B1 c1 wr HR1.out (by rw [HTL.out]; omega))
          unfold OwnE at HL
          have HSL := Lib.hid (show Sm (vt t) from (sm_split (by rw [← hs]; exact HS1.out)).2)
          have hl70 : ((vt t)).length ≤ 2100 := by have h := congrArg List.length hs; rw [List.length_append] at h; omega
          clear hs
          generalize (vt t) = E at *
          go_wp2_with fail
          refine HL.out.mono ?_
          rintro e w8 ⟨v8, rfl, hm8, hx8⟩
          obtain ⟨B8, c8, e8, _, hr8⟩ := hm8.slice HSL.out
          subst e8
          have HR8 := Lib.hid hr8
          have HX8 := Lib.hid hx8
          have hsz8 := hx8.size
          clear hm8 hx8 hr8
          obtain ⟨le, hle⟩ : ∃ le, E.length = le := ⟨_, rfl⟩
          have HLE := Lib.hid hle
          rw [hle] at hl70 ⊢
          clear hle
          go_wp2_with (at_builtin; refine wpList_append_rd rfl (.tmp 41) (.tmp 47) rfl w3.heap.size _ (laid l k) E rfl (mine_ext HM.out HX8.out) B8 le c8 rfl HLE.out HR8.out (by rw [HLK.out]; rw [HLE.out]; omega) (by omega) ?_; intro v' w9 hown' hg' hat'; rw [← HS.out] at hown'; have hx9 := (HX.out.trans HX8.out).more hg' (fun r e => (HM.out.block r e).1); obtain ⟨Bv, cv, ev', _, _⟩ := hown'.slice HS1.out; rw [HL1.out] at ev'; subst ev'; have HO := Lib.hid hown'; have HX9 := Lib.hid hx9; clear hown' hg' hat' hx9)
          go_roundg gh
          case measure => omega
          case rel => exact ⟨k + 1, Bv, cv, l1, by omega, by go_num, rfl, HL1.out, HO.out, HX9.out⟩
        have t2 : (q == 2) = false := beq_eq_false_iff_ne.2 h2
        rw [if_neg h2] at hs
        by_cases h3 : q = 3
        · subst h3
          rw [if_pos rfl] at hs
          have HS := Lib.hid hs
          have HD := Lib.hid (HTL.out ▸ law8_digest t B1 c1 wr HR1.out (by rw [HTL.out]; omega))
          unfold dg at HD
          have HV := Lib.hid (bt_dig t)
          have HDL := Lib.hid (dig_len t)
          have HRD2 := Lib.hid (fun (W : World) g (h : W.heap[g]? = some (Obj.cells (bv (dig t)).toArray 40 (0, 0))) => rd32 h HR1.out.1)
          have hz := zero_digest.1
          have HIN := Lib.hid (info32 (co t))
          have HSZ := Lib.hid (show (bt 32 fun _ => 0).size = (bt 32 (co t)).size by rw [bt_size, bt_size])
          have HON := Lib.hid (bt_one 32 (co t))
          rw [HV.out] at HIN HSZ HON
          have hal := fun g W => run_all32 g W
          clear hs HV
          generalize (bv (dig t)).toArray = V at *
          generalize dig t = E at *
          go_wp2_with fail
          refine HD.out.mono ?_
          rintro e w8 ⟨rfl, hx8⟩
          have HX8 := Lib.hid hx8
          have hsz8 := hx8.size
          clear hx8
          have HGN := Lib.hid (heap_alloc_new w8 (Obj.cells (bt 32 fun _ => 0) 40))
          have HGV := Lib.hid (setRow_heap _ _ _ V _ _ HGN.out)
          have HXV := Lib.hid (((Ext.refl w8).alloc (Obj.cells (bt 32 fun _ => 0) 40)).setRow (Nat.le_refl _) V)
          go_wp2_with (first | (with_reducible refine wpList_alloc_zero rfl 40 rfl (bt 32 fun _ => 0) hz ?_) | (with_reducible refine wpList_store_all rfl 40 (.tmp 6) (.tmp 56) rfl w8.heap.size (bt 32 fun _ => 0) V rfl rfl HGN.out HIN.out HSZ.out HON.out ?_; clear hz; generalize (w8.alloc (Obj.cells (bt 32 fun _ => 0) 40)).setRow w8.heap.size V = wv at HGV HXV ⊢) | (at_builtin; refine wpList_append_rd rfl (.tmp 57) (.tmp 58) rfl w3.heap.size _ (laid l k) E rfl (mine_ext HM.out (HX8.out.trans HXV.out)) (some ⟨w8.heap.size, 0, none⟩) 32 32 rfl HDL.out (HRD2.out _ _ HGV.out) (by rw [HLK.out, HDL.out]; omega) (by have := HXV.out.size; omega) ?_; intro v' w9 hown' hg' hat'; rw [← HS.out] at hown'; have hx9 := (HX.out.trans (HX8.out.trans HXV.out)).more hg' (fun r e => (HM.out.block r e).1); obtain ⟨Bv, cv, ev', _, _⟩ := hown'.slice HS1.out; rw [HL1.out] at ev'; subst ev'; have HO := Lib.hid hown'; have HX9 := Lib.hid hx9; clear hown' hg' hat' hx9))
          go_roundg gh
          case measure => omega
          case rel => exact ⟨k + 1, Bv, cv, l1, by omega, by go_num, rfl, HL1.out, HO.out, HX9.out⟩
        have t3 : (q == 3) = false := beq_eq_false_iff_ne.2 h3
        rw [if_neg h3, List.append_nil] at hs
        have HS := Lib.hid hs
        clear hs h1 h2 h3
        go_wp2
        go_roundg gh
        case measure => omega
        case rel => exact ⟨k + 1, Bk, ck, lk, by omega, by go_num, rfl, by rw [HS.out]; exact HLK.out, by rw [HS.out]; exact HM.out, HX.out⟩
  · clear hno c1
    go_wp2_with fail
    refine (HAW.out _).mono ?_
    rintro e w2 ⟨rfl, hx2⟩
    have HX2 := Lib.hid (HX1.out.trans hx2)
    clear hx2
    go_wp2
    go_ret
    exact ⟨rfl, HX2.out⟩
end Go.Proofs.Ytlkaggjnfidliaa

/-
  What the document's own reader of layer 8 does. Conditions: no more than 2^16 bytes.
-/
namespace Go.Proofs.Ytlkaggjnfidliaa
open Go.RowKit
open Pol (co Sm)

/-- A reader of the document's in block g: its bytes, where it is, its error. -/
structure RR (w : World) (g : Nat) (B : Option Addr) (n cb a e : Nat) : Prop where
  c0 : w.cell? ⟨g, 0, none⟩ = some (.slice B n cb)
  c1 : w.cell? ⟨g, 1, none⟩ = some (.int .i64 (a : Int))
  c2 : w.cell? ⟨g, 2, none⟩ = some (.int .i64 (e : Int))
  z1 : w.frozen? ⟨g, 1, none⟩ = false
  z2 : w.frozen? ⟨g, 2, none⟩ = false
theorem off_ne8 (g : Nat) {a b : Nat} (h : a ≠ b) : (⟨g, a, none⟩ : Addr) ≠ ⟨g, b, none⟩ := fun e => h (by injection e)
theorem RR.drewN {w : World} {g : Nat} {B : Option Addr} {n cb a e : Nat} (h : RR w g B n cb a e) (q : Nat) : RR (w.drewN q) g B n cb a e := ⟨h.c0, h.c1, h.c2, h.z1, h.z2⟩
theorem RR.set1 {w : World} {g : Nat} {B : Option Addr} {n cb a e : Nat} (h : RR w g B n cb a e) (a' : Nat) : RR (w.setCell ⟨g, 1, none⟩ (.int .i64 (a' : Int))) g B n cb a' e :=
  ⟨(World.cell?_setCell_other _ _ _ _ (off_ne8 g (by omega))).trans h.c0, World.cell?_setCell_same' _ _ _ (by rw [h.c1]; rfl), (World.cell?_setCell_other _ _ _ _ (off_ne8 g (by omega))).trans h.c2, by rw [World.frozen?_setCell]; exact h.z1, by rw [World.frozen?_setCell]; exact h.z2⟩
theorem RR.set2 {w : World} {g : Nat} {B : Option Addr} {n cb a e : Nat} (h : RR w g B n cb a e) (e' : Nat) : RR (w.setCell ⟨g, 2, none⟩ (.int .i64 (e' : Int))) g B n cb a e' :=
  ⟨(World.cell?_setCell_other _ _ _ _ (off_ne8 g (by omega))).trans h.c0, (World.cell?_setCell_other _ _ _ _ (off_ne8 g (by omega))).trans h.c1, World.cell?_setCell_same' _ _ _ (by rw [h.c2]; rfl), by rw [World.frozen?_setCell]; exact h.z1, by rw [World.frozen?_setCell]; exact h.z2⟩
theorem RR.ext {w w' : World} {g : Nat} {B : Option Addr} {n cb a e : Nat} (h : RR w g B n cb a e) (hx : Ext w w') : RR w' g B n cb a e :=
  ⟨(hx.below.cell (p := ⟨g, 0, none⟩) (block_lt_of_cell h.c0)).trans h.c0, (hx.below.cell (p := ⟨g, 1, none⟩) (block_lt_of_cell h.c1)).trans h.c1, (hx.below.cell (p := ⟨g, 2, none⟩) (block_lt_of_cell h.c2)).trans h.c2, (hx.below.frozen (p := ⟨g, 1, none⟩) (block_lt_of_cell h.c1)).trans h.z1, (hx.below.frozen (p := ⟨g, 2, none⟩) (block_lt_of_cell h.c2)).trans h.z2⟩
theorem RR.only {X : Nat → Prop} {w w' : World} {g : Nat} {B : Option Addr} {n cb a e : Nat} (h : RR w g B n cb a e) (ho : Only X w w') (hx : ¬ X g) : RR w' g B n cb a e :=
  ⟨ho.cell h.c0 hx, ho.cell h.c1 hx, ho.cell h.c2 hx, (ho.frozen (o := 1) (block_lt_of_cell h.c1) hx).trans h.z1, (ho.frozen (o := 2) (block_lt_of_cell h.c2) hx).trans h.z2⟩
theorem rd_keep {w w' : World} {A : Option Addr} {l : List Nat} {g : Nat} (h : Rd w A l) (ho : Only (fun k => k = g) w w') (hne : ∀ b o, A = some ⟨b, o, none⟩ → 0 < l.length → b ≠ g) : Rd w' A l :=
  ⟨h.1, fun i hi => by
    obtain ⟨b, o, e, hc⟩ := h.2 i hi
    exact ⟨b, o, e, ho.cell hc (hne b o e (by omega))⟩⟩
/-- What a method of the document's reader leaves, of bytes l of which rest is left. -/
def RefE {α : Type} (l : List Nat) (g : Nat) (B : Option Addr) (cb : Nat) (V : Value → World → Option α → Prop) (r : Rs α) (w : World) (e : Ending) (w' : World) : Prop :=
  Only (fun k => k = g) w w' ∧ match r with
    | .ok a rest => ∃ v, e = .returned v ∧ V v w' (some a) ∧ RR w' g B l.length cb (l.length - rest.length) 0
    | .er n => ∃ v at', e = .returned v ∧ V v w' none ∧ RR w' g B l.length cb at' n

set_option maxHeartbeats 3200000 in
set_option maxRecDepth 100000 in
theorem ref8r_number (l rest : List Nat) (g : Nat) (B : Option Addr) (cb most : Nat) (w : World) (hr : Rd w B l) (hfar : ∀ b o, B = some ⟨b, o, none⟩ → 0 < l.length → b ≠ g) (hl : l.length ≤ 65536) (hd : ∃ pre, l = pre ++ rest) (hR : RR w g B l.length cb (l.length - rest.length) 0) (_hm : most < 18446744073709551616) :
    Calls Try.prog 13 #[.pointer (some ⟨g, 0, none⟩), .int .u64 (most : Int)] w (RefE l g B cb (fun v _ n => v = .int .u64 ((n.getD 0 : Nat) : Int)) (rdN most rest) w) := by
  have HR := Lib.hid hr
  have HFAR := Lib.hid hfar
  have HD := Lib.hid hd
  have HRR := Lib.hid hR
  obtain ⟨res, hres⟩ : ∃ res, rdN most rest = res := ⟨_, rfl⟩
  have HRES := Lib.hid hres
  rw [hres]
  clear hr hfar hd hR hres
  generalize hn : l.length = n at *
  have HN := Lib.hid hn
  clear hn
  go_enter Try.func13, Try.ntmps13
  go_wp2
  go_loopg [5, 6, 7] rest.length (fun gh s5 s6 s7 wx => ∃ (i acc sc : Nat) (rs pre : List Nat), rs.length = gh ∧ l = pre ++ rs ∧ i ≤ 9 ∧ s7 = .int .i64 (i : Int) ∧ s5 = .int .u64 (acc : Int) ∧ s6 = .int .u64 (sc : Int) ∧ sc = 128 ^ i ∧ acc < 128 ^ i ∧ rv most i acc rs = res ∧ RR wx g B n cb pre.length 0 ∧ Only (fun k => k = g) w wx)
  case atStart =>
    obtain ⟨pre, hp⟩ := HD.out
    have hpl : n - rest.length = pre.length := by rw [← HN.out, hp, List.length_append]; omega
    exact ⟨0, 0, 1, rest, pre, rfl, hp, by omega, rfl, rfl, rfl, rfl, by omega, HRES.out, by rw [← hpl]; exact HRR.out, Only.refl _ _⟩
  case round =>
    obtain ⟨i, acc, sc, rs, pre, hgh, hlp, hi9, rfl, rfl, rfl, hsc, hacc, hrv, hrr, ho⟩ := hrel
    have HR1 := Lib.hid hrr
    have HO := Lib.hid ho
    have z0 := hrr.c0
    have z1 := hrr.c1
    have z2 := hrr.c2
    have y1 := hrr.z1
    have y2 := hrr.z2
    obtain ⟨pa, hpa⟩ : ∃ pa, pre.length = pa := ⟨_, rfl⟩
    have hpn : pa + rs.length = n := by rw [← HN.out, hlp, List.length_append, hpa]
    have HLP := Lib.hid hlp
    rw [hpa] at z1 HR1
    clear ho hrr hlp
    cases rs with
    | nil =>
      obtain rfl : gk = 0 := by simpa using hgh.symm
      have hpn' : n ≤ pa := by simp at hpn; omega
      have d1 : decide (n ≤ pa) = true := decide_eq_true hpn'
      have hrs : res = .er 2 := by rw [← hrv, rv]
      subst hrs
      clear hrv hgh
      go_wp2
      go_quiet (fail)
      go_wp2
      go_ret
      exact ⟨(HO.out.drewN nq).trans (Only.of_grown (grown_set' _ _ _ _) (fun k e => by cases e; rfl)), _, _, rfl, rfl, HN.out ▸ (HR1.out.drewN nq).set2 2⟩
    | cons b rs =>
      cases gk with
      | zero => simp at hgh
      | succ gh =>
      obtain rfl : rs.length = gh := by simpa using hgh
      have hpn' : pa < n := by simp at hpn; omega
      have hpnI : (pa : Int) < (n : Int) := by omega
      have d1 : decide (n ≤ pa) = false := decide_eq_false (by omega)
      obtain ⟨pa1, hpa1⟩ : ∃ pa1, pa + 1 = pa1 := ⟨_, rfl⟩
      have ep : IntKind.i64.wrap ((pa : Int) + 1) = (pa1 : Int) := by rw [IntWalk.i64_in _ (by omega)]; omega
      have hcb : co l pa = b := by rw [HLP.out, ← hpa]; unfold co; rw [List.getElem?_append_right (Nat.le_refl _), Nat.sub_self]; rfl
      obtain ⟨b1, o1, e1, hc1⟩ := (rd_keep HR.out HO.out (by rw [HN.out]; exact HFAR.out)).2 pa (by rw [HN.out]; exact hpn')
      subst e1
      have hbb := HR.out.1 pa
      rw [hcb] at hc1 hbb
      have hne : b1 ≠ g := HFAR.out b1 o1 rfl (by omega)
      have HPB := Lib.hid (show (pre ++ [b]).length = pa1 by rw [List.length_append, hpa]; exact hpa1)
      have hpn1 : pa1 + rs.length = n := by simp at hpn; omega
      clear hcb hpa hpn hgh
      have HR2' := Lib.hid (fun q => (HR1.out.drewN q).set1 pa1)
      have HO2' := Lib.hid (fun q => (HO.out.drewN q).trans (Only.of_grown (grown_set' (wr.drewN q) g 1 (.int .i64 (pa1 : Int))) (fun k e => by cases e; rfl)))
      obtain ⟨y, hy⟩ : ∃ y, b % 128 = y := ⟨_, rfl⟩
      have e2 : (b : Int) % 128 = (y : Int) := by omega
      have e2' : (b : Int).tmod 128 = (y : Int) := by rw [Int.tmod_eq_emod_of_nonneg (by omega)]; exact e2
      have e3 : IntKind.u8.wrap (y : Int) = (y : Int) := IntWalk.u8_in _ (by omega)
      have e4 : IntKind.u64.wrap (y : Int) = (y : Int) := by rw [IntKind.wrap_u64]; omega
      rw [rv] at hrv
      have hval : acc + b % 128 * 128 ^ i = acc + y * sc := by rw [hy, hsc]
      rw [hval] at hrv
      clear hy
      go_wp2
      go_quiet (fail)
      revert nq
      intro q1
      go_wp2
      go_quiet (fail)
      have HR2 := Lib.hid ((HR1.out.drewN (q1 + nq)).set1 pa1)
      have HO2 := Lib.hid ((HO.out.drewN (q1 + nq)).trans (Only.of_grown (grown_set' (wr.drewN (q1 + nq)) g 1 (.int .i64 (pa1 : Int))) (fun k e => by cases e; rfl)))
      have c2' := HR2.out.c2
      have y2' := HR2.out.z2
      by_cases h9 : i = 9
      · have t9 : ((i : Int) == 9) = true := by rw [h9]; rfl
        by_cases hb1 : 1 < b
        · have d2 : decide (1 < (b : Int)) = true := decide_eq_true (by omega)
          rw [if_pos (.inl ⟨h9, hb1⟩)] at hrv
          subst hrv
          clear hval hsc hacc h9
          go_wp2
          go_ret
          exact ⟨HO2.out.trans (Only.of_grown (grown_set' _ g 2 (.int .i64 14)) (fun k e => by cases e; rfl)), _, _, rfl, rfl, HN.out ▸ HR2.out.set2 14⟩
        · have d2 : decide (1 < (b : Int)) = false := decide_eq_false (by omega)
          have d3 : decide (0 < (i : Int)) = true := decide_eq_true (by omega)
          have d3n : decide (0 < i) = true := decide_eq_true (by omega)
          by_cases hb0 : b = 0
          · have d4 : ((b : Int) == 0) = true := by rw [hb0]; rfl
            have d4n : decide (b = 0) = true := decide_eq_true hb0
            have d4m : (b == 0) = true := by rw [hb0]; rfl
            rw [if_pos (.inr ⟨by omega, hb0⟩)] at hrv
            subst hrv
            clear hval hsc hacc h9 hb0
            go_wp2
            go_ret
            exact ⟨HO2.out.trans (Only.of_grown (grown_set' _ g 2 (.int .i64 14)) (fun k e => by cases e; rfl)), _, _, rfl, rfl, HN.out ▸ HR2.out.set2 14⟩
          · have d4 : ((b : Int) == 0) = false := beq_eq_false_iff_ne.2 (by omega)
            have d4n : decide (b = 0) = false := decide_eq_false hb0
            have d4m : (b == 0) = false := beq_eq_false_iff_ne.2 hb0
            rw [if_neg (by omega)] at hrv
            have hbound : acc + y * sc < 18446744073709551616 := by
              have hy1 : y = 1 := by omega
              rw [hy1, hsc, h9]
              rw [h9] at hacc
              have h128 : (128 : Nat) ^ 9 = 9223372036854775808 := by decide
              omega
            have HSC := Lib.hid hsc
            have HAC := Lib.hid hacc
            clear hsc hacc h9
            obtain ⟨nv, hnv⟩ : ∃ nv, acc + y * sc = nv := ⟨_, rfl⟩
            have hnvb : nv < 18446744073709551616 := by rw [← hnv]; exact hbound
            rw [hnv] at hrv
            have e5 : IntKind.u64.wrap ((y : Int) * (sc : Int)) = ((y * sc : Nat) : Int) := by rw [← Int.natCast_mul, IntKind.wrap_u64]; omega
            obtain ⟨ys, hys⟩ : ∃ ys, y * sc = ys := ⟨_, rfl⟩
            rw [hys] at e5 hnv
            have e6 : IntKind.u64.wrap ((acc : Int) + (ys : Int)) = (nv : Int) := by rw [IntKind.wrap_u64]; omega
            by_cases h128 : b < 128
            · have d7 : decide ((b : Int) < 128) = true := decide_eq_true (by omega)
              rw [if_pos h128] at hrv
              by_cases hmo : most < nv
              · have d8 : decide (most < nv) = true := decide_eq_true hmo
                have d8' : decide ((most : Int) < (nv : Int)) = true := decide_eq_true (by omega)
                have hrs : res = .er 10 := by rw [← hrv, if_pos hmo]
                subst hrs
                clear hrv hval hnv hys hbound
                go_wp2
                go_ret
                exact ⟨HO2.out.trans (Only.of_grown (grown_set' _ g 2 (.int .i64 10)) (fun k e => by cases e; rfl)), _, _, rfl, rfl, HN.out ▸ HR2.out.set2 10⟩
              · have d8 : decide (most < nv) = false := decide_eq_false hmo
                have d8' : decide ((most : Int) < (nv : Int)) = false := decide_eq_false (by omega)
                have hrs : res = .ok nv rs := by rw [← hrv, if_neg hmo]
                subst hrs
                have HAT := Lib.hid (show n - rs.length = pa1 by omega)
                clear hrv hval hnv hys hbound
                go_wp2
                go_ret
                exact ⟨HO2.out, _, rfl, rfl, by rw [HN.out, HAT.out]; exact HR2.out⟩
            · have d7 : decide ((b : Int) < 128) = false := decide_eq_false (by omega)
              rw [if_neg h128] at hrv
              omega
      · have t9 : ((i : Int) == 9) = false := beq_eq_false_iff_ne.2 (by omega)
        have hscl : 128 * sc ≤ 9223372036854775808 := by
          have h1 : 128 * sc = 128 ^ (i + 1) := by rw [hsc, Nat.pow_succ, Nat.mul_comm]
          have h2 : (128 : Nat) ^ (i + 1) ≤ 128 ^ 9 := Nat.pow_le_pow_right (by omega) (by omega)
          have h3 : (128 : Nat) ^ 9 = 9223372036854775808 := by decide
          omega
        have hbound : acc + y * sc < 18446744073709551616 := by
          have h1 : y * sc ≤ 127 * sc := Nat.mul_le_mul_right sc (by omega)
          have h2 : acc < sc := by rw [hsc]; exact hacc
          omega
        by_cases hi0 : i = 0
        · have d3 : decide (0 < (i : Int)) = false := decide_eq_false (by omega)
          have d3n : decide (0 < i) = false := decide_eq_false (by omega)
          rw [if_neg (by omega)] at hrv
          have HSC := Lib.hid hsc
          have HAC := Lib.hid hacc
          clear hsc hacc hi0
          obtain ⟨nv, hnv⟩ : ∃ nv, acc + y * sc = nv := ⟨_, rfl⟩
          have hnvb : nv < 18446744073709551616 := by rw [← hnv]; exact hbound
          rw [hnv] at hrv
          have e5 : IntKind.u64.wrap ((y : Int) * (sc : Int)) = ((y * sc : Nat) : Int) := by rw [← Int.natCast_mul, IntKind.wrap_u64]; omega
          obtain ⟨ys, hys⟩ : ∃ ys, y * sc = ys := ⟨_, rfl⟩
          rw [hys] at e5 hnv
          have e6 : IntKind.u64.wrap ((acc : Int) + (ys : Int)) = (nv : Int) := by rw [IntKind.wrap_u64]; omega
          by_cases h128 : b < 128
          · have d7 : decide ((b : Int) < 128) = true := decide_eq_true (by omega)
            rw [if_pos h128] at hrv
            by_cases hmo : most < nv
            · have d8 : decide (most < nv) = true := decide_eq_true hmo
              have d8' : decide ((most : Int) < (nv : Int)) = true := decide_eq_true (by omega)
              have hrs : res = .er 10 := by rw [← hrv, if_pos hmo]
              subst hrs
              clear hrv hval hnv hys hbound
              go_wp2
              go_ret
              exact ⟨HO2.out.trans (Only.of_grown (grown_set' _ g 2 (.int .i64 10)) (fun k e => by cases e; rfl)), _, _, rfl, rfl, HN.out ▸ HR2.out.set2 10⟩
            · have d8 : decide (most < nv) = false := decide_eq_false hmo
              have d8' : decide ((most : Int) < (nv : Int)) = false := decide_eq_false (by omega)
              have hrs : res = .ok nv rs := by rw [← hrv, if_neg hmo]
              subst hrs
              have HAT := Lib.hid (show n - rs.length = pa1 by omega)
              clear hrv hval hnv hys hbound
              go_wp2
              go_ret
              exact ⟨HO2.out, _, rfl, rfl, by rw [HN.out, HAT.out]; exact HR2.out⟩
          · have d7 : decide ((b : Int) < 128) = false := decide_eq_false (by omega)
            rw [if_neg h128] at hrv
            have HRV := Lib.hid hrv
            obtain ⟨sc2, hsc2⟩ : ∃ sc2, sc * 128 = sc2 := ⟨_, rfl⟩
            have hsc3 : sc2 = 128 ^ (i + 1) := by rw [← hsc2, HSC.out, Nat.pow_succ]
            have hscb : sc2 < 18446744073709551616 := by rw [hsc3]; exact Nat.lt_of_le_of_lt (Nat.pow_le_pow_right (n := 128) (by omega) (show i + 1 ≤ 9 by omega)) (by decide)
            have e9 : IntKind.u64.wrap ((sc : Int) * 128) = (sc2 : Int) := by rw [IntKind.wrap_u64]; omega
            have hnv3 : nv < 128 ^ (i + 1) := by rw [← hsc3, ← hsc2, ← hnv, ← hys]; have : y * sc ≤ 127 * sc := Nat.mul_le_mul_right sc (by omega); have hacc := HAC.out; rw [← HSC.out] at hacc; omega
            have HHH := Lib.hid (show sc2 = 128 ^ (i + 1) ∧ nv < 128 ^ (i + 1) from ⟨hsc3, hnv3⟩)
            clear hrv hval hnv hys hbound hsc2 hsc3 hnv3
            go_wp2
            go_roundg rs.length
            case measure => omega
            case rel => exact ⟨i + 1, nv, sc2, rs, pre ++ [b], rfl, by rw [HLP.out, List.append_assoc]; rfl, by omega, by go_num, rfl, rfl, HHH.out.1, HHH.out.2, HRV.out, by rw [HPB.out]; exact HR2.out, HO2.out⟩
        · have d3 : decide (0 < (i : Int)) = true := decide_eq_true (by omega)
          have d3n : decide (0 < i) = true := decide_eq_true (by omega)
          by_cases hb0 : b = 0
          · have d4 : ((b : Int) == 0) = true := by rw [hb0]; rfl
            have d4n : decide (b = 0) = true := decide_eq_true hb0
            have d4m : (b == 0) = true := by rw [hb0]; rfl
            rw [if_pos (.inr ⟨by omega, hb0⟩)] at hrv
            subst hrv
            clear hval hsc hacc hb0 hbound hscl
            go_wp2
            go_ret
            exact ⟨HO2.out.trans (Only.of_grown (grown_set' _ g 2 (.int .i64 14)) (fun k e => by cases e; rfl)), _, _, rfl, rfl, HN.out ▸ HR2.out.set2 14⟩
          · have d4 : ((b : Int) == 0) = false := beq_eq_false_iff_ne.2 (by omega)
            have d4n : decide (b = 0) = false := decide_eq_false hb0
            have d4m : (b == 0) = false := beq_eq_false_iff_ne.2 hb0
            rw [if_neg (by omega)] at hrv
            have HSC := Lib.hid hsc
            have HAC := Lib.hid hacc
            clear hsc hacc
            obtain ⟨nv, hnv⟩ : ∃ nv, acc + y * sc = nv := ⟨_, rfl⟩
            have hnvb : nv < 18446744073709551616 := by rw [← hnv]; exact hbound
            rw [hnv] at hrv
            have e5 : IntKind.u64.wrap ((y : Int) * (sc : Int)) = ((y * sc : Nat) : Int) := by rw [← Int.natCast_mul, IntKind.wrap_u64]; omega
            obtain ⟨ys, hys⟩ : ∃ ys, y * sc = ys := ⟨_, rfl⟩
            rw [hys] at e5 hnv
            have e6 : IntKind.u64.wrap ((acc : Int) + (ys : Int)) = (nv : Int) := by rw [IntKind.wrap_u64]; omega
            by_cases h128 : b < 128
            · have d7 : decide ((b : Int) < 128) = true := decide_eq_true (by omega)
              rw [if_pos h128] at hrv
              by_cases hmo : most < nv
              · have d8 : decide (most < nv) = true := decide_eq_true hmo
                have d8' : decide ((most : Int) < (nv : Int)) = true := decide_eq_true (by omega)
                have hrs : res = .er 10 := by rw [← hrv, if_pos hmo]
                subst hrs
                clear hrv hval hnv hys hbound
                go_wp2
                go_ret
                exact ⟨HO2.out.trans (Only.of_grown (grown_set' _ g 2 (.int .i64 10)) (fun k e => by cases e; rfl)), _, _, rfl, rfl, HN.out ▸ HR2.out.set2 10⟩
              · have d8 : decide (most < nv) = false := decide_eq_false hmo
                have d8' : decide ((most : Int) < (nv : Int)) = false := decide_eq_false (by omega)
                have hrs : res = .ok nv rs := by rw [← hrv, if_neg hmo]
                subst hrs
                have HAT := Lib.hid (show n - rs.length = pa1 by omega)
                clear hrv hval hnv hys hbound
                go_wp2
                go_ret
                exact ⟨HO2.out, _, rfl, rfl, by rw [HN.out, HAT.out]; exact HR2.out⟩
            · have d7 : decide ((b : Int) < 128) = false := decide_eq_false (by omega)
              rw [if_neg h128] at hrv
              have HRV := Lib.hid hrv
              obtain ⟨sc2, hsc2⟩ : ∃ sc2, sc * 128 = sc2 := ⟨_, rfl⟩
              have hsc3 : sc2 = 128 ^ (i + 1) := by rw [← hsc2, HSC.out, Nat.pow_succ]
              have hscb : sc2 < 18446744073709551616 := by rw [hsc3]; exact Nat.lt_of_le_of_lt (Nat.pow_le_pow_right (n := 128) (by omega) (show i + 1 ≤ 9 by omega)) (by decide)
              have e9 : IntKind.u64.wrap ((sc : Int) * 128) = (sc2 : Int) := by rw [IntKind.wrap_u64]; omega
              have hnv3 : nv < 128 ^ (i + 1) := by rw [← hsc3, ← hsc2, ← hnv, ← hys]; have : y * sc ≤ 127 * sc := Nat.mul_le_mul_right sc (by omega); have hacc := HAC.out; rw [← HSC.out] at hacc; omega
              have HHH := Lib.hid (show sc2 = 128 ^ (i + 1) ∧ nv < 128 ^ (i + 1) from ⟨hsc3, hnv3⟩)
              clear hrv hval hnv hys hbound hsc2 hsc3 hnv3
              go_wp2
              go_roundg rs.length
              case measure => omega
              case rel => exact ⟨i + 1, nv, sc2, rs, pre ++ [b], rfl, by rw [HLP.out, List.append_assoc]; rfl, by omega, by go_num, rfl, rfl, HHH.out.1, HHH.out.2, HRV.out, by rw [HPB.out]; exact HR2.out, HO2.out⟩
end Go.Proofs.Ytlkaggjnfidliaa

/-
  What the document's own reader of layer 8 does beside numbers: bytes, texts, its end. Conditions: no more than 2^16 bytes.
-/
namespace Go.Proofs.Ytlkaggjnfidliaa
open Go.RowKit
open Pol (co Sm)

/-- Bytes that were handed back, or none. -/
def OptB (base : Nat) (v : Value) (w : World) (o : Option (List Nat)) : Prop := OwnB base v w (o.getD [])
theorem mine_own {w : World} {base : Nat} {v : Value} {l : List Nat} (h : Mine w base v l) (hs : Sm l) : OwnB base v w l := by
  obtain ⟨B, c, rfl, hc, hr⟩ := h.slice hs
  refine ⟨B, c, rfl, hc, hr, fun b o e hl => ?_⟩
  subst e
  rcases h.2 with ⟨e, hn⟩ | ⟨g, cap, cur, e, hb, _⟩
  · omega
  · injection e with e
    injection e with e
    injection e with e _
    rw [e]
    exact hb

set_option maxHeartbeats 3200000 in
set_option maxRecDepth 100000 in
theorem ref8r_bytes (l rest : List Nat) (g : Nat) (B : Option Addr) (cb m : Nat) (w : World) (hr : Rd w B l) (hcb : l.length ≤ cb) (hl : l.length ≤ 65536) (hd : ∃ pre, l = pre ++ rest) (hR : RR w g B l.length cb (l.length - rest.length) 0) (hm : m ≤ 1048576) :
    Calls Try.prog 20 #[.pointer (some ⟨g, 0, none⟩), .int .i64 (m : Int)] w (RefE l g B cb (OptB w.heap.size) (rdB m rest) w) := by
  obtain ⟨pre, hp⟩ := hd
  have hrl : pre.length + rest.length = l.length := by rw [hp, List.length_append]
  obtain ⟨pa, hpa⟩ : ∃ pa, pre.length = pa := ⟨_, rfl⟩
  rw [show l.length - rest.length = pa from by omega] at hR
  obtain ⟨rl, hrl2⟩ : ∃ rl, rest.length = rl := ⟨_, rfl⟩
  rw [hpa, hrl2] at hrl
  have HR := Lib.hid hr
  have HRR := Lib.hid hR
  have z0 := hR.c0
  have z1 := hR.c1
  have z2 := hR.c2
  have y1 := hR.z1
  have y2 := hR.z2
  have hgl := block_lt_of_cell hR.c0
  have HCUT := Lib.hid (fun k (hk : k ≤ rl) => show tab k (fun j => co l (pa + j)) = rest.take k from Lin.list_ext (by rw [tab_len, List.length_take]; omega) fun i hi => by
    rw [tab_len] at hi
    rw [co_tab, if_pos hi, hp, ← hpa]
    unfold co
    rw [List.getElem?_append_right (by omega), List.getElem?_take, if_pos hi]
    congr 2
    omega)
  have HSR := Lib.hid (show ∀ k, Sm (rest.take k) from fun k => Pol.co_lt_of fun z hz => hr.1.mem z (by rw [hp]; exact List.mem_append.2 (.inr (List.mem_of_mem_take hz))))
  have HRD := Lib.hid (show rdB m rest = if rl < m then .er 2 else .ok (rest.take m) (rest.drop m) from by unfold rdB; rw [hrl2])
  have HDL := Lib.hid (show (rest.drop m).length = rl - m by rw [List.length_drop, hrl2])
  have HTL := Lib.hid (fun k (hk : k ≤ rl) => show (rest.take k).length = k by rw [List.length_take, hrl2]; omega)
  rw [HRD.out]
  clear hr hR hp hpa hrl2
  generalize hn : l.length = n at *
  have HN := Lib.hid hn
  clear hn
  obtain ⟨df, hdf⟩ : ∃ df, n - pa = df := ⟨_, rfl⟩
  have e1 : IntKind.i64.wrap ((n : Int) - (pa : Int)) = (df : Int) := by rw [IntWalk.i64_in _ (by omega)]; omega
  by_cases hlt : rl < m
  · rw [if_pos hlt]
    have d1 : decide (df < m) = true := decide_eq_true (by omega)
    clear hdf HRD
    go_enter Try.func20, Try.ntmps20
    go_wp2
    go_quiet (fail)
    go_wp2
    go_ret
    exact ⟨((Only.refl _ w).drewN nq).trans (Only.of_grown (grown_set' _ g 2 (.int .i64 2)) (fun k e => by cases e; rfl)), _, _, rfl, ⟨none, 0, rfl, Nat.le_refl _, Rd.nil _ _, fun _ _ _ h => absurd h (by simp)⟩, HN.out ▸ (HRR.out.drewN nq).set2 2⟩
  · rw [if_neg hlt]
    have d1 : decide (df < m) = false := decide_eq_false (by omega)
    obtain ⟨p2, hp2⟩ : ∃ p2, pa + m = p2 := ⟨_, rfl⟩
    have e2 : IntKind.i64.wrap ((pa : Int) + (m : Int)) = (p2 : Int) := by rw [IntWalk.i64_in _ (by omega)]; omega
    obtain ⟨X, hX, hXr⟩ := run_cut_u8 B n cb pa p2 (by omega) (by omega)
    rw [show p2 - pa = m from by omega] at hX hXr
    obtain ⟨cx, hcx⟩ : ∃ cx, cb - pa = cx := ⟨_, rfl⟩
    rw [hcx] at hX
    have HXR := Lib.hid (fun W (hW : Ext w W) => show Rd W X (rest.take m) from by
      have h := hXr W l (HR.out.ext hW) (by rw [HN.out]; omega)
      rwa [HCUT.out m (by omega)] at h)
    have hp2n : p2 ≤ n := by omega
    have hpa2 : pa ≤ p2 := by omega
    have hp2c : p2 ≤ cb := by omega
    have HAT := Lib.hid (show n - (rl - m) = p2 by omega)
    have HT1 := Lib.hid (HTL.out m (by omega))
    have HS1 := Lib.hid (HSR.out m)
    clear hdf hXr hcx hp2 HRD HCUT
    generalize rest.take m = E at *
    go_enter Try.func20, Try.ntmps20
    go_wp2
    go_quiet (fail)
    revert nq
    intro q1
    go_wp2
    refine wp_region_stab (Two ⟨g, 0, none⟩ (.slice B n cb) ⟨g, 1, none⟩ (.int .i64 (pa : Int))) [0, 1, 2, 3, 4, 5, 6, 7, 8, 9, 10, 11, 12, 13, 14, 15] [(1, true), (2, true), (3, true), (4, true), (5, true), (6, true), (7, true), (8, true), (9, true), (10, true), (11, true), (12, true), (13, true), (14, true), (15, true), (0, false), (16, false), (17, false)] (by kernel_rfl) (fun c a a' w e h => ⟨e ▸ h.1, h.2⟩) (by kernel_rfl) ⟨z0, z1⟩ ?_
    refine stab_yes rfl (fun K hK => ?_)
    go_simp
    refine ⟨_, fun _ _ => rfl, hK _ ?_⟩
    clear hK K
    refine stab_yes rfl (fun K hK => ?_)
    go_simp
    refine ⟨_, fun _ _ => rfl, hK _ ?_⟩
    clear hK K
    refine stab_yes rfl (fun K hK => ?_)
    go_simp
    refine ⟨_, fun _ _ => rfl, hK _ ?_⟩
    clear hK K
    refine stab_yes rfl (fun K hK => ?_)
    go_simp
    refine ⟨(.slice B n cb), fun W hW => ?_, hK _ ?_⟩
    focus (have h1 := hW.1; go_simp; done)
    clear hK K
    refine stab_yes rfl (fun K hK => ?_)
    go_simp
    refine ⟨_, fun _ _ => rfl, hK _ ?_⟩
    clear hK K
    refine stab_yes rfl (fun K hK => ?_)
    go_simp
    refine ⟨_, fun _ _ => rfl, hK _ ?_⟩
    clear hK K
    refine stab_yes rfl (fun K hK => ?_)
    go_simp
    refine ⟨_, fun _ _ => rfl, hK _ ?_⟩
    clear hK K
    refine stab_yes rfl (fun K hK => ?_)
    go_simp
    refine ⟨(.int .i64 (pa : Int)), fun W hW => ?_, hK _ ?_⟩
    focus (have h1 := hW.2; go_simp; done)
    clear hK K
    refine stab_yes rfl (fun K hK => ?_)
    go_simp
    refine ⟨_, fun _ _ => rfl, hK _ ?_⟩
    clear hK K
    refine stab_yes rfl (fun K hK => ?_)
    go_simp
    refine ⟨_, fun _ _ => rfl, hK _ ?_⟩
    clear hK K
    refine stab_yes rfl (fun K hK => ?_)
    go_simp
    refine ⟨_, fun _ _ => rfl, hK _ ?_⟩
    clear hK K
    refine stab_yes rfl (fun K hK => ?_)
    go_simp
    refine ⟨(.int .i64 (pa : Int)), fun W hW => ?_, hK _ ?_⟩
    focus (have h1 := hW.2; go_simp; done)
    clear hK K
    refine stab_yes rfl (fun K hK => ?_)
    go_simp
    refine ⟨_, fun _ _ => rfl, hK _ ?_⟩
    clear hK K
    refine stab_yes rfl (fun K hK => ?_)
    go_simp
    refine ⟨_, fun _ _ => rfl, hK _ ?_⟩
    clear hK K
    refine stab_yes rfl (fun K hK => ?_)
    go_simp
    refine ⟨_, fun _ _ => rfl, hK _ ?_⟩
    clear hK K
    refine stab_one rfl (fun K hK => ?_)
    go_wp2
    have HRR1 := Lib.hid ((HRR.out.drewN (q1 + 1)).ext ((Ext.refl (w.drewN (q1 + 1))).alloc (.cells #[] 5)))
    have HXD := Lib.hid ((Ext.refl w).drewN (q1 + 1))
    have hsd : (w.drewN (q1 + 1)).heap.size = w.heap.size := rfl
    refine ⟨fun _ => ⟨HRR1.out.c0, HRR1.out.c1⟩, ?_⟩
    clear HRR1 z0 z1 z2 y1 y2
    refine stab_one rfl (fun K hK => ?_)
    go_wp2_with (at_builtin; refine wpList_append_rd rfl (.tmp 26) (.tmp 41) rfl w.heap.size _ [] E rfl (mine_empty (w.drewN (q1 + 1))) X m cx rfl HT1.out (HXR.out _ (HXD.out.alloc _)) (by rw [HT1.out]; simp; omega) (by simp) ?_; intro v' w3 hown' hg' hat'; rw [List.nil_append] at hown'; have hx3 := (HXD.out.alloc (.cells #[] 5)).more hg' (fun r e => by have := ((mine_empty (w.drewN (q1 + 1))).block r e).1; exact this); obtain ⟨Bv, cv, ev', hcv, _⟩ := hown'.slice HS1.out; rw [HT1.out] at ev' hcv; subst ev'; have HO := Lib.hid hown'; have HX3 := Lib.hid hx3; clear hown' hg' hat' hx3)
    have HR3 := Lib.hid (HRR.out.ext HX3.out)
    have z0 := HR3.out.c0
    have z1 := HR3.out.c1
    have y1 := HR3.out.z1
    refine ⟨fun h => absurd h (by decide), ?_⟩
    refine stab_one rfl (fun K hK => ?_)
    go_wp2
    refine ⟨fun h => absurd h (by decide), ?_⟩
    unfold wpStab
    go_wp2
    go_ret
    have hmv := mine_only (X := fun k => k = g) HO.out (Only.of_grown (grown_set' w3 g 1 (.int .i64 (p2 : Int))) (fun k e => by cases e; rfl)) (fun k hk e => by have := (HO.out.block k hk).1; omega)
    exact ⟨(Only.of_ext HX3.out).trans (Only.of_grown (grown_set' _ g 1 (.int .i64 (p2 : Int))) (fun k e => by cases e; rfl)), _, rfl, by
      have h := mine_own (hmv.down (base' := w.heap.size) (by omega)) HS1.out
      exact h, by rw [HN.out, HDL.out, HAT.out]; exact HR3.out.set1 p2⟩

theorem OwnB.down {base base' : Nat} {v : Value} {w : World} {l : List Nat} (h : OwnB base v w l) (hb : base' ≤ base) : OwnB base' v w l := by
  obtain ⟨B, c, e, hc, hr, hbl⟩ := h
  exact ⟨B, c, e, hc, hr, fun b o e hl => Nat.le_trans hb (hbl b o e hl)⟩
set_option maxHeartbeats 800000 in
theorem ref8r_none (g : Nat) (B : Option Addr) (n cb a e : Nat) (m : Int) (w : World) (hR : RR w g B n cb a e) (he : 0 < e) :
    Calls Try.prog 20 #[.pointer (some ⟨g, 0, none⟩), .int .i64 m] w (fun en w' => en = .returned (.slice none 0 0) ∧ w = w') := by
  have z2 := hR.c2
  have t0 : ((e : Int) != 0) = true := by simp; omega
  clear hR he
  go_enter Try.func20, Try.ntmps20
  go_wp2
  go_ret
  exact ⟨rfl, rfl⟩

set_option maxHeartbeats 1600000 in
set_option maxRecDepth 100000 in
theorem ref8r_text (l rest : List Nat) (g : Nat) (B : Option Addr) (cb m : Nat) (w : World) (hr : Rd w B l) (hcb : l.length ≤ cb) (hfar : ∀ b o, B = some ⟨b, o, none⟩ → 0 < l.length → b ≠ g) (hl : l.length ≤ 65536) (hd : ∃ pre, l = pre ++ rest) (hR : RR w g B l.length cb (l.length - rest.length) 0) (hm : m ≤ 5000) :
    Calls Try.prog 17 #[.pointer (some ⟨g, 0, none⟩), .int .i64 (m : Int)] w (RefE l g B cb (OptB w.heap.size) (rdT m rest) w) := by
  have HN := Lib.hid (ref8r_number l rest g B cb m w hr hfar hl hd hR (by omega))
  have e0 : max (m : Int) 0 = (m : Int) := by omega
  have e0' : max 0 (m : Int) = (m : Int) := by omega
  have e1 : IntKind.u64.wrap (m : Int) = (m : Int) := by rw [IntKind.wrap_u64]; omega
  have hsr : Sm rest := by obtain ⟨pre, hp⟩ := hd; rw [hp] at hr; exact (sm_split hr.1).2
  unfold rdT
  cases hres : rdN m rest with
  | er e =>
    rw [hres] at HN
    have he := (rdN_er hres).1
    clear hr hR hd hfar hres hsr
    go_enter Try.func17, Try.ntmps17
    go_wp2_with fail
    refine HN.out.mono ?_
    rintro en w1 ⟨ho, v, a, rfl, rfl, hrr⟩
    have HO := Lib.hid ho
    have HRR := Lib.hid hrr
    clear ho hrr
    go_wp2_with fail
    refine (ref8r_none g B l.length cb a e 0 w1 HRR.out he).mono ?_
    rintro en w2 ⟨rfl, rfl⟩
    go_wp2
    go_ret
    exact ⟨HO.out, _, a, rfl, ⟨none, 0, rfl, Nat.le_refl _, Rd.nil _ _, fun _ _ _ h => absurd h (by simp)⟩, HRR.out⟩
  | ok k r =>
    rw [hres] at HN
    obtain ⟨hk1, _, hk3⟩ := vn_rdN hsr hres
    have hkm : k ≤ 5000 := by omega
    have e2 : IntKind.i64.wrap (k : Int) = (k : Int) := IntWalk.i64_in _ (by omega)
    have HB := Lib.hid (fun w1 (ho : Only (fun k => k = g) w w1) (hrr : RR w1 g B l.length cb (l.length - r.length) 0) => ref8r_bytes l r g B cb k w1 (rd_keep hr ho hfar) hcb hl (by
      obtain ⟨pre, hp⟩ := hd
      exact ⟨pre ++ vn k, by rw [List.append_assoc, ← hk1]; exact hp⟩) hrr (by omega))
    show Calls _ _ _ _ (RefE l g B cb (OptB w.heap.size) (rdB k r) w)
    clear hr hR hd hfar hres hsr hk1 hk3
    go_enter Try.func17, Try.ntmps17
    go_wp2_with fail
    refine HN.out.mono ?_
    rintro en w1 ⟨ho, v, rfl, rfl, hrr⟩
    have HO := Lib.hid ho
    have HB1 := Lib.hid (HB.out w1 ho hrr)
    have hs1 := ho.size
    clear ho hrr
    go_wp2_with fail
    refine HB1.out.mono ?_
    intro en w2 h2
    cases hrd : rdB k r with
    | ok t r2 =>
      rw [hrd] at h2
      obtain ⟨ho2, v2, rfl, hv2, hrr2⟩ := h2
      have HH := Lib.hid (show Only (fun k => k = g) w w2 ∧ OwnB w.heap.size v2 w2 t ∧ RR w2 g B l.length cb (l.length - r2.length) 0 from ⟨HO.out.trans ho2, OwnB.down hv2 hs1, hrr2⟩)
      have HRD := Lib.hid hrd
      clear ho2 hv2 hrr2 hrd
      go_wp2
      go_ret
      refine ⟨HH.out.1, ?_⟩
      rw [HRD.out]
      exact ⟨_, rfl, HH.out.2.1, HH.out.2.2⟩
    | er e =>
      rw [hrd] at h2
      obtain ⟨ho2, v2, a, rfl, hv2, hrr2⟩ := h2
      have HH := Lib.hid (show Only (fun k => k = g) w w2 ∧ OwnB w.heap.size v2 w2 [] ∧ RR w2 g B l.length cb a e from ⟨HO.out.trans ho2, OwnB.down hv2 hs1, hrr2⟩)
      have HRD := Lib.hid hrd
      clear ho2 hv2 hrr2 hrd
      go_wp2
      go_ret
      refine ⟨HH.out.1, ?_⟩
      rw [HRD.out]
      exact ⟨_, a, rfl, HH.out.2.1, HH.out.2.2⟩

set_option maxHeartbeats 1600000 in
set_option maxRecDepth 100000 in
theorem ref8r_end (rest : List Nat) (g : Nat) (B : Option Addr) (n cb : Nat) (w : World) (hR : RR w g B n cb (n - rest.length) 0) (hl : rest.length ≤ n) :
    Calls Try.prog 23 #[.pointer (some ⟨g, 0, none⟩)] w (fun e w' => e = .returned (.int .i64 (if rest = [] then 0 else 3)) ∧ Only (fun k => k = g) w w') := by
  have z0 := hR.c0
  have z1 := hR.c1
  have z2 := hR.c2
  have y2 := hR.z2
  have HZ := Lib.hid (fun q v => World.cell?_setCell_same' (w.drewN q) ⟨g, 2, none⟩ v (by rw [show (w.drewN q).cell? ⟨g, 2, none⟩ = w.cell? ⟨g, 2, none⟩ from rfl, hR.c2]; rfl))
  clear hR
  cases rest with
  | nil =>
    rw [if_pos rfl]
    have d1 : decide (n - ([] : List Nat).length < n) = false := decide_eq_false (by simp)
    generalize n - ([] : List Nat).length = a at *
    clear hl
    go_enter Try.func23, Try.ntmps23
    go_wp2
    go_quiet (fail)
    go_wp2
    go_ret
    exact ⟨rfl, (Only.refl _ w).drewN nq⟩
  | cons x r =>
    rw [if_neg (by simp)]
    obtain ⟨a, ha⟩ : ∃ a, n - (x :: r).length = a := ⟨_, rfl⟩
    rw [ha] at z1
    have d1 : decide (a < n) = true := decide_eq_true (by simp at ha hl; omega)
    clear hl ha
    go_enter Try.func23, Try.ntmps23
    go_wp2
    go_quiet (fail)
    have z3 := HZ.out nq (.int .i64 3)
    go_wp2
    go_ret
    exact ⟨rfl, ((Only.refl _ w).drewN nq).trans (Only.of_grown (grown_set' _ g 2 (.int .i64 3)) (fun k e => by cases e; rfl))⟩
end Go.Proofs.Ytlkaggjnfidliaa

/-
  What holds while the law CodecReads reads, and that it is kept. Conditions: none.
-/
namespace Go.Proofs.Ytlkaggjnfidliaa
open Go.RowKit
open Pol (co Sm)

/-- What a step of the law CodecReads comes to. -/
def crStep (l : List (Int × Nat × List Nat)) (i : Nat) (bs : List Nat) : Rs Unit :=
  if kd l i = 1 then (rdN (nb l i) bs).to else if kd l i = 2 then (rdT (nb l i % 5000) bs).to else if kd l i = 3 then (rdB 32 bs).to else if kd l i = 4 then (rdN (nb l i % 5000) bs).to else if kd l i = 5 then .er (if nb l i % 17 = 0 then 1 else nb l i % 17) else .ok () bs
/-- Where things lie. -/
structure Geo (lo hi g gW : Nat) (Bz : Option Addr) (w0 : World) : Prop where
  g0 : w0.heap.size ≤ g
  g1 : g < gW
  g2 : gW + 3 < lo
  g3 : lo ≤ hi
  b0 : ∀ k o, Bz = some ⟨k, o, none⟩ → k < w0.heap.size
/-- What holds ahead of a step: r1 is left to the program's reader, r2 to the document's. -/
structure CrI (I : Rdr) (lo hi g gW : Nat) (Bz B : Option Addr) (ρ : Addr) (gv : Value) (nn cb : Nat) (dv : Int) (r1 r2 : List Nat) (w0 w : World) : Prop where
  ri : I.RI lo hi Bz ρ w r1
  cg : w.cell? ⟨g, 0, none⟩ = some gv
  rr : RR w gW B nn cb (nn - r2.length) 0
  cp : w.cell? ⟨gW + 1, 0, none⟩ = some (.pointer (some ⟨gW, 0, none⟩))
  ck : w.cell? ⟨gW + 2, 0, none⟩ = some (.bool true)
  zk : w.frozen? ⟨gW + 2, 0, none⟩ = false
  cd : w.cell? ⟨gW + 3, 0, none⟩ = some (.int .i64 dv)
  zd : w.frozen? ⟨gW + 3, 0, none⟩ = false
  ext : Ext w0 w
  size : hi ≤ w.heap.size
section
variable {I : Rdr} {lo hi g gW : Nat} {Bz B : Option Addr} {ρ : Addr} {gv : Value} {nn cb : Nat} {dv : Int} {r1 r2 : List Nat} {w0 w w' : World}
theorem CrI.only {X : Nat → Prop} (C : CodecSaid I) (G : Geo lo hi g gW Bz w0) (h : CrI I lo hi g gW Bz B ρ gv nn cb dv r1 r2 w0 w) (ho : Only X w w') (hX : ∀ k, X k → k < hi → k = gW ∨ k = gW + 2 ∨ k = gW + 3) {r2' : List Nat} (hr : RR w' gW B nn cb (nn - r2'.length) 0) (h2 : w'.cell? ⟨gW + 2, 0, none⟩ = some (.bool true) ∧ w'.frozen? ⟨gW + 2, 0, none⟩ = false) {dv' : Int} (h3 : w'.cell? ⟨gW + 3, 0, none⟩ = some (.int .i64 dv') ∧ w'.frozen? ⟨gW + 3, 0, none⟩ = false) : CrI I lo hi g gW Bz B ρ gv nn cb dv' r1 r2' w0 w' := by
  obtain ⟨g0, g1, g2, g3, b0⟩ := G
  have hs := h.size
  have n : ∀ k, k < hi → k ≠ gW → k ≠ gW + 2 → k ≠ gW + 3 → ¬ X k := fun k h1 h2 h3 h4 h5 => by have := hX k h5 h1; omega
  exact ⟨C.keep lo hi Bz ρ w w' r1 h.ri (fun k hk => ho.block k (by have := hk.2; omega) (n k hk.2 (by have := hk.1; omega) (by have := hk.1; omega) (by have := hk.1; omega))) (fun k o e => by
      have := b0 k o e
      exact ho.block k (by omega) (n k (by omega) (by omega) (by omega) (by omega))),
    ho.cell h.cg (n g (by omega) (by omega) (by omega) (by omega)), hr, ho.cell h.cp (n _ (by omega) (by omega) (by omega) (by omega)), h2.1, h2.2, h3.1, h3.2,
    ⟨h.ext.below.trans ⟨ho.os, ho.tape, ho.output, ho.size, fun k hk => ho.block k (Nat.lt_of_lt_of_le hk h.ext.size) (n k (by omega) (by omega) (by omega) (by omega))⟩⟩, Nat.le_trans h.size ho.size⟩
theorem CrI.more (C : CodecSaid I) (G : Geo lo hi g gW Bz w0) (h : CrI I lo hi g gW Bz B ρ gv nn cb dv r1 r2 w0 w) (hx : Ext w w') : CrI I lo hi g gW Bz B ρ gv nn cb dv r1 r2 w0 w' :=
  h.only (X := fun _ => False) C G (Only.of_ext hx) (fun _ hk => hk.elim) (h.rr.ext hx) ⟨(hx.below.cell (p := ⟨gW + 2, 0, none⟩) (block_lt_of_cell h.ck)).trans h.ck, (hx.below.frozen (p := ⟨gW + 2, 0, none⟩) (block_lt_of_cell h.ck)).trans h.zk⟩ ⟨(hx.below.cell (p := ⟨gW + 3, 0, none⟩) (block_lt_of_cell h.cd)).trans h.cd, (hx.below.frozen (p := ⟨gW + 3, 0, none⟩) (block_lt_of_cell h.cd)).trans h.zd⟩
theorem CrI.setO (C : CodecSaid I) (G : Geo lo hi g gW Bz w0) (h : CrI I lo hi g gW Bz B ρ gv nn cb dv r1 r2 w0 w) : CrI I lo hi g gW Bz B ρ gv nn cb dv r1 r2 w0 (w.setCell ⟨gW + 2, 0, none⟩ (.bool true)) :=
  have ho : Only (fun k => k = gW + 2) w (w.setCell ⟨gW + 2, 0, none⟩ (.bool true)) := Only.of_grown (grown_set' _ _ _ _) (fun k e => by cases e; rfl)
  h.only C G ho (fun k hk _ => .inr (.inl hk)) (h.rr.only ho (by omega)) ⟨World.cell?_setCell_same' _ _ _ (by rw [h.ck]; rfl), by rw [World.frozen?_setCell]; exact h.zk⟩ ⟨ho.cell h.cd (by omega), by rw [World.frozen?_setCell]; exact h.zd⟩
theorem CrI.setD (C : CodecSaid I) (G : Geo lo hi g gW Bz w0) (h : CrI I lo hi g gW Bz B ρ gv nn cb dv r1 r2 w0 w) (dv' : Int) : CrI I lo hi g gW Bz B ρ gv nn cb dv' r1 r2 w0 (w.setCell ⟨gW + 3, 0, none⟩ (.int .i64 dv')) :=
  have ho : Only (fun k => k = gW + 3) w (w.setCell ⟨gW + 3, 0, none⟩ (.int .i64 dv')) := Only.of_grown (grown_set' _ _ _ _) (fun k e => by cases e; rfl)
  h.only C G ho (fun k hk _ => .inr (.inr hk)) (h.rr.only ho (by omega)) ⟨ho.cell h.ck (by omega), by rw [World.frozen?_setCell]; exact h.zk⟩ ⟨World.cell?_setCell_same' _ _ _ (by rw [h.cd]; rfl), by rw [World.frozen?_setCell]; exact h.zd⟩
theorem CrI.ref (C : CodecSaid I) (G : Geo lo hi g gW Bz w0) (h : CrI I lo hi g gW Bz B ρ gv nn cb dv r1 r2 w0 w) (ho : Only (fun k => k = gW) w w') {r2' : List Nat} (hr : RR w' gW B nn cb (nn - r2'.length) 0) : CrI I lo hi g gW Bz B ρ gv nn cb dv r1 r2' w0 w' :=
  h.only C G ho (fun k hk _ => .inl hk) hr ⟨ho.cell h.ck (show ¬ gW + 2 = gW by omega), (ho.frozen (o := 0) (block_lt_of_cell h.ck) (show ¬ gW + 2 = gW by omega)).trans h.zk⟩ ⟨ho.cell h.cd (show ¬ gW + 3 = gW by omega), (ho.frozen (o := 0) (block_lt_of_cell h.cd) (show ¬ gW + 3 = gW by omega)).trans h.zd⟩
theorem CrI.reads (G : Geo lo hi g gW Bz w0) (h : CrI I lo hi g gW Bz B ρ gv nn cb dv r1 r2 w0 w) {r1' : List Nat} (hr : I.RI lo hi Bz ρ w' r1') (ho : Only (Btw lo hi) w w') : CrI I lo hi g gW Bz B ρ gv nn cb dv r1' r2 w0 w' := by
  obtain ⟨g0, g1, g2, g3, b0⟩ := G
  have n : ∀ k, k < lo → ¬ Btw lo hi k := fun k hk h => by have := h.1; omega
  exact ⟨hr, ho.cell h.cg (n g (by omega)), h.rr.only ho (n gW (by omega)), ho.cell h.cp (n (gW + 1) (by omega)), ho.cell h.ck (n (gW + 2) (by omega)), (ho.frozen (o := 0) (block_lt_of_cell h.ck) (n (gW + 2) (by omega))).trans h.zk, ho.cell h.cd (n (gW + 3) (by omega)), (ho.frozen (o := 0) (block_lt_of_cell h.cd) (n (gW + 3) (by omega))).trans h.zd, only_btw_ext ho h.ext (by omega), Nat.le_trans h.size ho.size⟩
end
/-- What the reading leaves. -/
def CrJ (l : List (Int × Nat × List Nat)) (b : List Nat) (g : Nat) (gv : Value) (gW : Nat) (B : Option Addr) (cb : Nat) (w0 w : World) (y : By) : Prop :=
  Ext w0 w ∧ w.cell? ⟨g, 0, none⟩ = some gv ∧ w.cell? ⟨gW + 1, 0, none⟩ = some (.pointer (some ⟨gW, 0, none⟩)) ∧ w.cell? ⟨gW + 2, 0, none⟩ = some (.bool true) ∧
  ((∃ r, y = .done r ∧ (∃ pre, b = pre ++ r) ∧ RR w gW B b.length cb (b.length - r.length) 0 ∧ w.cell? ⟨gW + 3, 0, none⟩ = some (.int .i64 (l.length : Int))) ∨
   (∃ m k r, y = .fails m ∧ k < l.length ∧ (∃ pre, b = pre ++ r) ∧ crStep l k r = .er m ∧ RR w gW B b.length cb (b.length - r.length) 0 ∧ w.cell? ⟨gW + 3, 0, none⟩ = some (.int .i64 (k : Int))))
end Go.Proofs.Ytlkaggjnfidliaa

/-
  The function that reads of the law CodecReads, walked, under what layer 8's functions are to do. Conditions: none.
-/
namespace Go.Proofs.Ytlkaggjnfidliaa
open Go.RowKit
open Pol (co Sm)

/-- Three cells, and what they hold. -/
def Three (p : Addr) (v : Value) (q : Addr) (u : Value) (r : Addr) (t : Value) (W : World) : Prop := W.cell? p = some v ∧ W.cell? q = some u ∧ W.cell? r = some t
def Dgc (p : Addr) (v : Value) (q : Addr) (u : Value) (gd : Nat) (V : Array Value) (W : World) : Prop := W.cell? p = some v ∧ W.cell? q = some u ∧ W.heap[gd]? = some (.cells V 40 (0, 0))
theorem dig_self {t : List Nat} (h : t.length = 32) : dig t = t := Lin.list_ext (by rw [dig_len, h]) fun i hi => by
  rw [dig_len] at hi
  unfold dig
  rw [co_tab, if_pos hi]
theorem CrJ.fail {I : Rdr} {lo hi g gW : Nat} {Bz B : Option Addr} {ρ : Addr} {gv : Value} {cb k m : Nat} {r1 : List Nat} {l : List (Int × Nat × List Nat)} {b r : List Nat} {w0 w w' : World} (G : Geo lo hi g gW Bz w0) (h : CrI I lo hi g gW Bz B ρ gv b.length cb (k : Int) r1 r w0 w) (ho : Only (Btw lo hi) w w') (hk : k < l.length) (hp : ∃ pre, b = pre ++ r) (hs : crStep l k r = .er m) : CrJ l b g gv gW B cb w0 w' (.fails m) := by
  obtain ⟨g0, g1, g2, g3, b0⟩ := G
  have n : ∀ k, k < lo → ¬ Btw lo hi k := fun k hk h => by have := h.1; omega
  exact ⟨only_btw_ext ho h.ext (by omega), ho.cell h.cg (n g (by omega)), ho.cell h.cp (n (gW + 1) (by omega)), ho.cell h.ck (n (gW + 2) (by omega)), .inr ⟨m, k, r, rfl, hk, hp, hs, h.rr.only ho (n gW (by omega)), ho.cell h.cd (n (gW + 3) (by omega))⟩⟩

set_option maxHeartbeats 6400000 in
set_option maxRecDepth 100000 in
theorem reads8_by (I : Rdr) (C : CodecSaid I) (lo hi g gW : Nat) (Bz B A : Option Addr) (ρ : Addr) (b : List Nat) (cb : Nat) (l : List (Int × Nat × List Nat)) (ca : Nat) (dv : Int) (w0 w : World) (G : Geo lo hi g gW Bz w0) (hI : CrI I lo hi g gW Bz B ρ (.slice A l.length ca) b.length cb dv b b w0 w) (hr : Rd w0 B b) (hcb : b.length ≤ cb) (hb : b.length ≤ 400) (hT : TRd w0 A l) (hl : l.length ≤ 30) :
    Calls Try.prog 11 #[.pointer (some ρ), .pointer (some ⟨g, 0, none⟩), .pointer (some ⟨gW + 3, 0, none⟩), .pointer (some ⟨gW + 2, 0, none⟩), .pointer (some ⟨gW + 1, 0, none⟩)] w (ByE I lo hi Bz ρ (fun _ w' y => CrJ l b g (.slice A l.length ca) gW B cb w0 w' y)) := by
  have HC := Lib.hid C
  have HI := Lib.hid hI
  have HT := Lib.hid hT
  have HR := Lib.hid hr
  have HG := Lib.hid G
  have HCB := Lib.hid hcb
  have HBL := Lib.hid hb
  have HFAR := Lib.hid (fun bb o (e : B = some ⟨bb, o, none⟩) (h : 0 < b.length) => show bb ≠ gW from by
    have h1 := hr.block' bb o e h
    have h2 := G.g0
    have h3 := G.g1
    omega)
  have hgl : gW + 3 < lo := G.g2
  have hhl : lo ≤ hi := G.g3
  have hcg := hI.cg
  have hcd := hI.cd
  have hzd := hI.zd
  clear C hI hT hr G hcb
  generalize hn : l.length = n at *
  have HN := Lib.hid hn
  clear hn
  go_enter Try.func11, Try.ntmps11
  go_wp2
  clear hcg hcd hzd
  go_loopg [14] n (fun gh s14 wx => ∃ (k : Nat) (rest : List Nat) (dv : Int), k + gh = n ∧ s14 = .int .i64 (k : Int) ∧ (∃ pre, b = pre ++ rest) ∧ CrI I lo hi g gW Bz B ρ (.slice A n ca) b.length cb dv rest rest w0 wx)
  case atStart => exact ⟨0, b, _, by omega, rfl, ⟨[], rfl⟩, HI.out⟩
  case round =>
    obtain ⟨k, rest, dv', hkg, rfl, hpre, hci⟩ := hrel
    have HCI := Lib.hid hci
    have HPRE := Lib.hid hpre
    have hcg := hci.cg
    have hcd := hci.cd
    have hzd := hci.zd
    clear hci hpre
    cases gk with
    | zero =>
      obtain rfl : k = n := by omega
      clear hkg
      have HE := Lib.hid (HCI.out.setD HC.out HG.out (k : Int))
      go_wp2
      go_end0
      exact .inl ⟨rest, _, rfl, HE.out.ri, HE.out.ext, HE.out.cg, HE.out.cp, HE.out.ck, .inl ⟨rest, rfl, HPRE.out, HE.out.rr, by rw [HN.out]; exact HE.out.cd⟩⟩
    | succ gh =>
      have hk : k < n := by omega
      have hkI : (k : Int) < (n : Int) := by omega
      obtain ⟨b1, o1, B1, c1, e1, hc1, hc2, hc3, hcc, hr1, hnb, _⟩ := HT.out.at HCI.out.ext k (by rw [HN.out]; exact hk)
      subst e1
      have HSR := Lib.hid (show Sm rest from by obtain ⟨pre, hp⟩ := HPRE.out; have := HR.out.1; rw [hp] at this; exact (sm_split this).2)
      have HST := Lib.hid (fun r => show crStep l k r = if kd l k = 1 then (rdN (nb l k) r).to else if kd l k = 2 then (rdT (nb l k % 5000) r).to else if kd l k = 3 then (rdB 32 r).to else if kd l k = 4 then (rdN (nb l k % 5000) r).to else if kd l k = 5 then .er (if nb l k % 17 = 0 then 1 else nb l k % 17) else .ok () r from rfl)
      obtain ⟨q, hq⟩ : ∃ q, kd l k = q := ⟨_, rfl⟩
      obtain ⟨x, hxx⟩ : ∃ x, nb l k = x := ⟨_, rfl⟩
      obtain ⟨tl, htl⟩ : ∃ tl, (sb l k).length = tl := ⟨_, rfl⟩
      rw [hq] at hc1 HST
      rw [hxx] at hc2 hnb HST
      rw [htl] at hc3 hcc
      clear hq hxx htl hr1 hcc
      have hszw := HCI.out.size
      have HA := Lib.hid (HCI.out.more HC.out HG.out ((Ext.refl wr).alloc (.cells #[.int .i64 q, .int .u64 (x : Int), .slice B1 tl c1] 34)))
      have HA1 := Lib.hid (HA.out.setD HC.out HG.out (k : Int))
      have hcd1 := HA.out.cd
      have hzd1 := HA.out.zd
      have hrow := heap_alloc_new wr (.cells #[.int .i64 q, .int .u64 (x : Int), .slice B1 tl c1] 34)
      have hrow1 := (Below.heap_setCell (wr.alloc (.cells #[.int .i64 q, .int .u64 (x : Int), .slice B1 tl c1] 34)) ⟨gW + 3, 0, none⟩ (.int .i64 (k : Int)) wr.heap.size (show wr.heap.size ≠ gW + 3 by omega)).trans hrow
      have s0 : ((wr.alloc (.cells #[.int .i64 q, .int .u64 (x : Int), .slice B1 tl c1] 34)).setCell ⟨gW + 3, 0, none⟩ (.int .i64 (k : Int))).cell? ⟨wr.heap.size, 0, none⟩ = some (.int .i64 q) := by rw [cell_of_row _ _ _ _ _ _ hrow1]; rfl
      have s1 : ((wr.alloc (.cells #[.int .i64 q, .int .u64 (x : Int), .slice B1 tl c1] 34)).setCell ⟨gW + 3, 0, none⟩ (.int .i64 (k : Int))).cell? ⟨wr.heap.size, 1, none⟩ = some (.int .u64 (x : Int)) := by rw [cell_of_row _ _ _ _ _ _ hrow1]; rfl
      have HS1 := Lib.hid s1
      have HPR2 := Lib.hid (fun (a r : List Nat) (h : rest = a ++ r) => show ∃ pre, b = pre ++ r from by obtain ⟨pre, hp⟩ := HPRE.out; exact ⟨pre ++ a, by rw [List.append_assoc, ← h]; exact hp⟩)
      clear hrow hrow1 hcd hzd
      by_cases h1 : q = 1
      · have HSP := Lib.hid (show crStep l k rest = (rdN x rest).to from by rw [HST.out, if_pos h1])
        subst h1
        have HL := Lib.hid (HC.out.number lo hi Bz ρ _ rest x HA1.out.ri hnb)
        go_wp2_with fail
        clear s0 s1 hcd1 hzd1 hcg hc1 hc2 hc3
        generalize ((wr.alloc (.cells #[.int .i64 1, .int .u64 (x : Int), .slice B1 tl c1] 34)).setCell ⟨gW + 3, 0, none⟩ (.int .i64 (k : Int))) = W1 at HL HA1 HS1 ⊢
        refine HL.out.mono ?_
        rintro e w1 ⟨ho1, h⟩
        cases hrd : rdN x rest with
        | er n1 =>
          rw [hrd] at h
          obtain ⟨ch, rfl, hst⟩ := h
          exact ⟨rfl, .inr (.inl ⟨n1, ch, rfl, hst, CrJ.fail HG.out HA1.out ho1 (by rw [HN.out]; exact hk) HPRE.out (by rw [HSP.out, hrd]; rfl)⟩)⟩
        | ok y r =>
          rw [hrd] at h
          obtain ⟨v1, rfl, rfl, hi2⟩ := h
          obtain ⟨hy1, hy2, _⟩ := vn_rdN HSR.out hrd
          have HA2 := Lib.hid (HA1.out.reads HG.out hi2 ho1)
          have HS2 := Lib.hid (ho1.cell HS1.out (fun h => by have := h.2; omega))
          have HRF := Lib.hid (ref8r_number b rest gW B cb x w1 (HR.out.ext HA2.out.ext) HFAR.out (by have := HBL.out; omega) HPRE.out HA2.out.rr hnb)
          rw [hrd] at HRF
          have c2 := HA2.out.cp
          have c3 := HA2.out.ck
          have s2 := HS2.out
          have HP2 := Lib.hid (HPR2.out _ _ hy1)
          clear hi2 ho1 hrd hy1
          go_wp2_with fail
          refine HRF.out.mono ?_
          rintro e w2 ⟨ho2, v2, rfl, rfl, hrr2⟩
          have HA3 := Lib.hid (HA2.out.ref HC.out HG.out ho2 hrr2)
          have HA4 := Lib.hid (HA3.out.setO HC.out HG.out)
          have c4 := HA3.out.ck
          have z4 := HA3.out.zk
          clear ho2 hrr2 c2 c3 s2
          go_wp2
          go_roundg gh
          case measure => omega
          case rel => exact ⟨k + 1, r, _, by omega, by go_num, HP2.out, HA4.out⟩
      have t1 : (q == 1) = false := beq_eq_false_iff_ne.2 h1
      by_cases h2 : q = 2
      · have HSP := Lib.hid (show crStep l k rest = (rdT (x % 5000) rest).to from by rw [HST.out, if_neg h1, if_pos h2])
        subst h2
        have HHE := Lib.hid (fun W => law8_held x W hnb)
        obtain ⟨m, hm⟩ : ∃ m, x % 5000 = m := ⟨_, rfl⟩
        rw [hm] at HSP HHE
        have hm5 : m < 5000 := by omega
        clear hm
        go_wp2_with fail
        clear s0 hcd1 hzd1 hcg hc1 hc2 hc3
        generalize ((wr.alloc (.cells #[.int .i64 2, .int .u64 (x : Int), .slice B1 tl c1] 34)).setCell ⟨gW + 3, 0, none⟩ (.int .i64 (k : Int))) = W1 at HA1 HS1 s1 ⊢
        refine (HHE.out W1).mono ?_
        rintro e w9 ⟨rfl, q9, rfl⟩
        have HA1' := Lib.hid (HA1.out.more HC.out HG.out ((Ext.refl W1).drewN q9))
        have HL := Lib.hid (HC.out.text lo hi Bz ρ _ rest m HA1'.out.ri (by omega))
        have HS1' := Lib.hid (show (W1.drewN q9).cell? ⟨wr.heap.size, 1, none⟩ = some (.int .u64 (x : Int)) from HS1.out)
        clear s1
        go_wp2_with fail
        generalize W1.drewN q9 = W2 at HA1' HL HS1' ⊢
        refine HL.out.mono ?_
        rintro e w1 ⟨ho1, h⟩
        cases hrd : rdT m rest with
        | er n1 =>
          rw [hrd] at h
          obtain ⟨ch, rfl, hst⟩ := h
          exact ⟨rfl, .inr (.inl ⟨n1, ch, rfl, hst, CrJ.fail HG.out HA1'.out ho1 (by rw [HN.out]; exact hk) HPRE.out (by rw [HSP.out, hrd]; rfl)⟩)⟩
        | ok t r =>
          rw [hrd] at h
          obtain ⟨v1, rfl, ⟨Bt, ct, rfl, hct, hrt, hbt⟩, hi2⟩ := h
          obtain ⟨hy1, hy2, hy3⟩ := vt_rdT HSR.out hrd
          have HA2 := Lib.hid (HA1'.out.reads HG.out hi2 ho1)
          have HS2 := Lib.hid (ho1.cell HS1'.out (fun h => by have := h.2; omega))
          have HRF := Lib.hid (fun W (hx : Ext w1 W) => hrd ▸ ref8r_text b rest gW B cb m W (HR.out.ext (HA2.out.ext.trans hx)) HCB.out HFAR.out (by have := HBL.out; omega) HPRE.out (HA2.out.rr.ext hx) (by omega))
          have HP2 := Lib.hid (HPR2.out _ _ hy1)
          have hgs : wr.heap.size ≠ gW := by omega
          have hW2 := HA1'.out.size
          have HRT := Lib.hid (show ∀ W, Only (fun k => k = gW) w1 W → Rd W Bt t from fun W ho => rd_keep hrt ho (fun b o e h => by have := hbt b o e h; omega))
          have HTH := Lib.hid (show ∀ W X, Only X w1 W → (∀ k, X k → k = gW) → Three ⟨gW + 2, 0, none⟩ (.bool true) ⟨gW + 1, 0, none⟩ (.pointer (some ⟨gW, 0, none⟩)) ⟨wr.heap.size, 1, none⟩ (.int .u64 (x : Int)) W from fun W X ho hX => ⟨ho.cell HA2.out.ck (fun h => by have := hX _ h; omega), ho.cell HA2.out.cp (fun h => by have := hX _ h; omega), ho.cell HS2.out (fun h => hgs (hX _ h))⟩)
          obtain ⟨tn, htn⟩ : ∃ tn, t.length = tn := ⟨_, rfl⟩
          have HTN := Lib.hid htn
          rw [htn] at hct hy2 ⊢
          clear hi2 ho1 hrd hy1 hrt hbt htn
          go_wp2
          refine wp_region_stab (Three ⟨gW + 2, 0, none⟩ (.bool true) ⟨gW + 1, 0, none⟩ (.pointer (some ⟨gW, 0, none⟩)) ⟨wr.heap.size, 1, none⟩ (.int .u64 (x : Int))) [0, 1, 2, 3, 4, 5, 6, 7] [(0, true), (1, true), (2, true), (3, true), (4, true), (5, true), (6, false), (7, false), (8, false), (9, false), (10, false)] (by kernel_rfl) (fun c a a' w e h => ⟨e ▸ h.1, h.2⟩) (by kernel_rfl) (HTH.out _ (fun _ => False) (Only.of_ext ((Ext.refl w1).drew)) (fun _ h => h.elim)) ?_
          refine stab_yes rfl (fun K hK => ?_)
          go_simp
          refine ⟨(.bool true), fun W hW => ?_, hK _ ?_⟩
          focus (have h1 := hW.1; go_simp; done)
          clear hK K
          refine stab_yes rfl (fun K hK => ?_)
          go_simp
          refine ⟨_, fun _ _ => rfl, hK _ ?_⟩
          clear hK K
          refine stab_yes rfl (fun K hK => ?_)
          go_simp
          refine ⟨_, fun _ _ => rfl, hK _ ?_⟩
          clear hK K
          refine stab_yes rfl (fun K hK => ?_)
          go_simp
          refine ⟨(.pointer (some ⟨gW, 0, none⟩)), fun W hW => ?_, hK _ ?_⟩
          focus (have h1 := hW.2.1; go_simp; done)
          clear hK K
          refine stab_yes rfl (fun K hK => ?_)
          go_simp
          refine ⟨_, fun _ _ => rfl, hK _ ?_⟩
          clear hK K
          refine stab_yes rfl (fun K hK => ?_)
          go_simp
          refine ⟨(.int .u64 (x : Int)), fun W hW => ?_, hK _ ?_⟩
          focus (have h1 := hW.2.2; go_simp; done)
          clear hK K
          refine stab_one rfl (fun K hK => ?_)
          go_wp2_with fail
          refine (HHE.out _).mono ?_
          rintro e w8 ⟨rfl, q8, rfl⟩
          go_wp2
          have HX7 := Lib.hid ((Ext.refl w1).drewN (1 + q8))
          generalize w1.drewN (1 + q8) = w7 at HX7 ⊢
          refine ⟨fun _ => HTH.out _ (fun _ => False) (Only.of_ext HX7.out) (fun _ h => h.elim), ?_⟩
          refine stab_one rfl (fun K hK => ?_)
          go_wp2_with fail
          refine (HRF.out w7 HX7.out).mono ?_
          rintro e w2 ⟨ho2, v2, rfl, ⟨B2, c2, rfl, hc2, hr2, _⟩, hrr2⟩
          have HA3 := Lib.hid ((HA2.out.more HC.out HG.out HX7.out).ref HC.out HG.out ho2 hrr2)
          have HT2 := Lib.hid (HTH.out w2 (fun k => k = gW) ((Only.of_ext HX7.out).trans ho2) (fun _ h => h))
          have hsame := same_tells t Bt B2 ct c2 w2 (HRT.out w2 ((Only.of_ext HX7.out).trans ho2)) hr2 (by rw [HTN.out]; omega)
          rw [HTN.out] at hsame
          have HSA := Lib.hid hsame
          clear ho2 hrr2 hr2 hsame
          rw [show (Option.getD (some t) []).length = tn from HTN.out]
          go_wp2
          refine ⟨fun _ => HT2.out, ?_⟩
          refine stab_one rfl (fun K hK => ?_)
          go_wp2_with fail
          refine HSA.out.mono ?_
          rintro e w6 ⟨rfl, hx6⟩
          have HA5 := Lib.hid (HA3.out.more HC.out HG.out hx6)
          have HA4 := Lib.hid (HA5.out.setO HC.out HG.out)
          have c4 := HA5.out.ck
          have z4 := HA5.out.zk
          clear hx6
          go_wp2
          refine ⟨fun h => absurd h (by decide), ?_⟩
          refine stab_one rfl (fun K hK => ?_)
          go_wp2
          refine ⟨fun h => absurd h (by decide), ?_⟩
          refine stab_one rfl (fun K hK => ?_)
          go_wp2
          refine ⟨fun h => absurd h (by decide), ?_⟩
          unfold wpStab
          go_wp2
          go_roundg gh
          case measure => omega
          case rel => exact ⟨k + 1, r, _, by omega, by go_num, HP2.out, HA4.out⟩
      have t2 : (q == 2) = false := beq_eq_false_iff_ne.2 h2
      by_cases h3 : q = 3
      · have HSP := Lib.hid (show crStep l k rest = (rdB 32 rest).to from by rw [HST.out, if_neg h1, if_neg h2, if_pos h3])
        subst h3
        have HL := Lib.hid (HC.out.digest lo hi Bz ρ _ rest HA1.out.ri)
        go_wp2_with fail
        clear s0 s1 hcd1 hzd1 hcg hc1 hc2 hc3
        generalize ((wr.alloc (.cells #[.int .i64 3, .int .u64 (x : Int), .slice B1 tl c1] 34)).setCell ⟨gW + 3, 0, none⟩ (.int .i64 (k : Int))) = W1 at HL HA1 HS1 ⊢
        refine HL.out.mono ?_
        rintro e w1 ⟨ho1, h⟩
        cases hrd : rdB 32 rest with
        | er n1 =>
          rw [hrd] at h
          obtain ⟨ch, rfl, hst⟩ := h
          exact ⟨rfl, .inr (.inl ⟨n1, ch, rfl, hst, CrJ.fail HG.out HA1.out ho1 (by rw [HN.out]; exact hk) HPRE.out (by rw [HSP.out, hrd]; rfl)⟩)⟩
        | ok t r =>
          rw [hrd] at h
          obtain ⟨v1, rfl, rfl, hi2⟩ := h
          obtain ⟨hy1, hy2⟩ := rdB_ok hrd
          have HST2 := Lib.hid (show Sm t from (sm_split (hy1 ▸ HSR.out)).1)
          have HDS := Lib.hid (dig_self hy2)
          have HA2 := Lib.hid (HA1.out.reads HG.out hi2 ho1)
          have HRF := Lib.hid (fun W (hx : Ext w1 W) => hrd ▸ ref8r_bytes b rest gW B cb 32 W (HR.out.ext (HA2.out.ext.trans hx)) HCB.out (by have := HBL.out; omega) HPRE.out (HA2.out.rr.ext hx) (by omega))
          have HP2 := Lib.hid (HPR2.out _ _ hy1)
          have HTN := Lib.hid hy2
          have heq : ∀ W, (Op.equalIn 10000 40 (.agg (bv t).toArray) (.agg (bv t).toArray)).run Try.prog W = .ok true W := fun W => by
            have h := eq32_same (co t) (fun i _ => HST2.out i) W
            rw [bt_dig, HDS.out] at h
            exact h
          have hz := zero_digest.1
          have HIN := Lib.hid (show (Try.prog.info? 40).map (·.size) = some (bv t).toArray.size from by have h := info32 (co t); rw [bt_dig, HDS.out] at h; exact h)
          have HSZ := Lib.hid (show (bt 32 fun _ => 0).size = (bv t).toArray.size from by rw [bt_size]; simp [bv_len, HTN.out])
          have HON := Lib.hid (show (bv t).toArray.all (·.oneCell') = true from by have h := bt_one 32 (co t); rw [bt_dig, HDS.out] at h; exact h)
          have HLD := Lib.hid (fun (t' : List Nat) (B2 : Option Addr) (c2 : Nat) (W : World) (ht : t' = t) (hr2 : Rd W B2 t') => show Calls Try.prog 19 #[.slice B2 32 c2] W (Tells (.agg (bv t).toArray) W) from by
            subst ht
            have h := law8_digest t' B2 c2 W hr2 (by rw [HTN.out]; omega)
            rw [HTN.out, HDS.out] at h
            exact h)
          unfold dg
          generalize (bv t).toArray = V at *
          clear hi2 ho1 hrd hy1 hy2
          have HGN := Lib.hid (heap_alloc_new w1 (Obj.cells (bt 32 fun _ => 0) 40))
          have HGV := Lib.hid (setRow_heap _ _ _ V _ _ HGN.out)
          have HXV := Lib.hid (((Ext.refl w1).alloc (Obj.cells (bt 32 fun _ => 0) 40)).setRow (Nat.le_refl _) V)
          go_wp2_with (first | (with_reducible refine wpList_alloc_zero rfl 40 rfl (bt 32 fun _ => 0) hz ?_) | (with_reducible refine wpList_store_all rfl 40 (.tmp 10) (.tmp 59) rfl w1.heap.size (bt 32 fun _ => 0) V rfl rfl HGN.out HIN.out HSZ.out HON.out ?_; clear hz; generalize (w1.alloc (Obj.cells (bt 32 fun _ => 0) 40)).setRow w1.heap.size V = wv at HGV HXV ⊢))
          have HA6 := Lib.hid (HA2.out.more HC.out HG.out HXV.out)
          have hgl2 : gW < w1.heap.size := by have := HA2.out.size; omega
          have HTH := Lib.hid (show ∀ W X, Only X wv W → (∀ k, X k → k = gW) → Dgc ⟨gW + 2, 0, none⟩ (.bool true) ⟨gW + 1, 0, none⟩ (.pointer (some ⟨gW, 0, none⟩)) w1.heap.size V W from fun W X ho hX => ⟨ho.cell HA6.out.ck (fun h => by have := hX _ h; omega), ho.cell HA6.out.cp (fun h => by have := hX _ h; omega), (ho.block w1.heap.size (by
            rcases Nat.lt_or_ge w1.heap.size wv.heap.size with h | h
            · exact h
            · have := HGV.out; rw [Array.getElem?_eq_none h] at this; cases this) (fun h => by have := hX _ h; omega)).trans HGV.out⟩)
          refine wp_region_stab (Dgc ⟨gW + 2, 0, none⟩ (.bool true) ⟨gW + 1, 0, none⟩ (.pointer (some ⟨gW, 0, none⟩)) w1.heap.size V) [0, 1, 2, 3, 4, 5] [(0, true), (1, true), (2, true), (3, true), (4, false), (5, false), (6, false), (7, false), (8, false)] (by kernel_rfl) (fun c a a' w e h => ⟨e ▸ h.1, h.2⟩) (by kernel_rfl) (HTH.out _ (fun _ => False) (Only.of_ext ((Ext.refl wv).drew)) (fun _ h => h.elim)) ?_
          refine stab_yes rfl (fun K hK => ?_)
          go_simp
          refine ⟨(.bool true), fun W hW => ?_, hK _ ?_⟩
          focus (have h1 := hW.1; go_simp; done)
          clear hK K
          refine stab_yes rfl (fun K hK => ?_)
          go_simp
          refine ⟨_, fun _ _ => rfl, hK _ ?_⟩
          clear hK K
          refine stab_yes rfl (fun K hK => ⟨by go_simp, .agg V, fun W hW => ?_, hK _ ?_⟩)
          · have h1 := run_load_all W w1.heap.size 40 V 32 5 Try.underlying40 hW.2.2 HIN.out
            simp only [execOp, Sem.run_bind, Sem.run_pure]
            exact congrArg (fun z => Result.andThen z fun a w' => Result.ok (Next.value a) w') h1
          refine stab_yes rfl (fun K hK => ?_)
          go_simp
          refine ⟨(.pointer (some ⟨gW, 0, none⟩)), fun W hW => ?_, hK _ ?_⟩
          focus (have h1 := hW.2.1; go_simp; done)
          clear hK K
          refine stab_one rfl (fun K hK => ?_)
          go_wp2_with fail
          refine (HRF.out wv.drew (HXV.out.drew)).mono ?_
          rintro e w2 ⟨ho2, v2, rfl, ⟨B2, c2, rfl, hc2, hr2, _⟩, hrr2⟩
          have HA3 := Lib.hid ((HA6.out.more HC.out HG.out ((Ext.refl wv).drew)).ref HC.out HG.out ho2 hrr2)
          have HT2 := Lib.hid (HTH.out w2 (fun k => k = gW) ((Only.of_ext ((Ext.refl wv).drew)).trans ho2) (fun _ h => h))
          have HDG := Lib.hid (HLD.out _ B2 c2 w2 rfl hr2)
          clear ho2 hrr2 hr2
          rw [show (Option.getD (some t) []).length = 32 from HTN.out]
          go_wp2
          refine ⟨fun _ => HT2.out, ?_⟩
          refine stab_one rfl (fun K hK => ?_)
          go_wp2_with fail
          refine HDG.out.mono ?_
          rintro e w6 ⟨rfl, hx6⟩
          have HA5 := Lib.hid (HA3.out.more HC.out HG.out hx6)
          have HT6 := Lib.hid (show Dgc ⟨gW + 2, 0, none⟩ (.bool true) ⟨gW + 1, 0, none⟩ (.pointer (some ⟨gW, 0, none⟩)) w1.heap.size V w6 from ⟨HA5.out.ck, HA5.out.cp, (hx6.below.block w1.heap.size (by
            rcases Nat.lt_or_ge w1.heap.size w2.heap.size with h | h
            · exact h
            · have := HT2.out.2.2; rw [Array.getElem?_eq_none h] at this; cases this)).trans HT2.out.2.2⟩)
          have HA4 := Lib.hid (HA5.out.setO HC.out HG.out)
          have c4 := HA5.out.ck
          have z4 := HA5.out.zk
          clear hx6
          go_wp2
          refine ⟨fun _ => HT6.out, ?_⟩
          refine stab_one rfl (fun K hK => ?_)
          go_wp2
          refine ⟨fun h => absurd h (by decide), ?_⟩
          refine stab_one rfl (fun K hK => ?_)
          go_wp2
          refine ⟨fun h => absurd h (by decide), ?_⟩
          refine stab_one rfl (fun K hK => ?_)
          go_wp2
          refine ⟨fun h => absurd h (by decide), ?_⟩
          unfold wpStab
          go_wp2
          go_roundg gh
          case measure => omega
          case rel => exact ⟨k + 1, r, _, by omega, by go_num, HP2.out, HA4.out⟩
      have t3 : (q == 3) = false := beq_eq_false_iff_ne.2 h3
      by_cases h4 : q = 4
      · have HSP := Lib.hid (show crStep l k rest = (rdN (x % 5000) rest).to from by rw [HST.out, if_neg h1, if_neg h2, if_neg h3, if_pos h4])
        subst h4
        have HHE := Lib.hid (fun W => law8_held x W hnb)
        obtain ⟨m, hm⟩ : ∃ m, x % 5000 = m := ⟨_, rfl⟩
        rw [hm] at HSP HHE
        have hm5 : m < 5000 := by omega
        clear hm
        go_wp2_with fail
        clear s0 hcd1 hzd1 hcg hc1 hc2 hc3
        generalize ((wr.alloc (.cells #[.int .i64 4, .int .u64 (x : Int), .slice B1 tl c1] 34)).setCell ⟨gW + 3, 0, none⟩ (.int .i64 (k : Int))) = W1 at HA1 HS1 s1 ⊢
        refine (HHE.out W1).mono ?_
        rintro e w9 ⟨rfl, q9, rfl⟩
        have HA1' := Lib.hid (HA1.out.more HC.out HG.out ((Ext.refl W1).drewN q9))
        have HL := Lib.hid (HC.out.count lo hi Bz ρ _ rest m HA1'.out.ri (by omega))
        have HS1' := Lib.hid (show (W1.drewN q9).cell? ⟨wr.heap.size, 1, none⟩ = some (.int .u64 (x : Int)) from HS1.out)
        clear s1
        go_wp2_with fail
        generalize W1.drewN q9 = W2 at HA1' HL HS1' ⊢
        refine HL.out.mono ?_
        rintro e w1 ⟨ho1, h⟩
        cases hrd : rdN m rest with
        | er n1 =>
          rw [hrd] at h
          obtain ⟨ch, rfl, hst⟩ := h
          exact ⟨rfl, .inr (.inl ⟨n1, ch, rfl, hst, CrJ.fail HG.out HA1'.out ho1 (by rw [HN.out]; exact hk) HPRE.out (by rw [HSP.out, hrd]; rfl)⟩)⟩
        | ok y r =>
          rw [hrd] at h
          obtain ⟨v1, rfl, rfl, hi2⟩ := h
          obtain ⟨hy1, hy2, hy3⟩ := vn_rdN HSR.out hrd
          have HA2 := Lib.hid (HA1'.out.reads HG.out hi2 ho1)
          have HS2 := Lib.hid (ho1.cell HS1'.out (fun h => by have := h.2; omega))
          have HRF := Lib.hid (fun W (hx : Ext w1 W) => hrd ▸ ref8r_number b rest gW B cb m W (HR.out.ext (HA2.out.ext.trans hx)) HFAR.out (by have := HBL.out; omega) HPRE.out (HA2.out.rr.ext hx) (by omega))
          have hy5 : y < 5000 := by omega
          have e4 : IntKind.u64.wrap (y : Int) = (y : Int) := by rw [IntKind.wrap_u64]; omega
          have e5 : IntKind.u64.wrap (m : Int) = (m : Int) := by rw [IntKind.wrap_u64]; omega
          have HP2 := Lib.hid (HPR2.out _ _ hy1)
          have hgs : wr.heap.size ≠ gW := by omega
          have HTH := Lib.hid (show ∀ W X, Only X w1 W → (∀ k, X k → k = gW) → Three ⟨gW + 2, 0, none⟩ (.bool true) ⟨gW + 1, 0, none⟩ (.pointer (some ⟨gW, 0, none⟩)) ⟨wr.heap.size, 1, none⟩ (.int .u64 (x : Int)) W from fun W X ho hX => ⟨ho.cell HA2.out.ck (fun h => by have := hX _ h; omega), ho.cell HA2.out.cp (fun h => by have := hX _ h; omega), ho.cell HS2.out (fun h => hgs (hX _ h))⟩)
          clear hi2 ho1 hrd hy1
          go_wp2
          refine wp_region_stab (Three ⟨gW + 2, 0, none⟩ (.bool true) ⟨gW + 1, 0, none⟩ (.pointer (some ⟨gW, 0, none⟩)) ⟨wr.heap.size, 1, none⟩ (.int .u64 (x : Int))) [0, 1, 2, 3, 4, 5, 6, 7, 8, 9] [(0, true), (1, true), (2, true), (3, true), (4, true), (5, true), (6, true), (7, false), (8, false), (9, false), (10, false), (11, false), (12, false)] (by kernel_rfl) (fun c a a' w e h => ⟨e ▸ h.1, h.2⟩) (by kernel_rfl) (HTH.out _ (fun _ => False) (Only.of_ext ((Ext.refl w1).drew)) (fun _ h => h.elim)) ?_
          refine stab_yes rfl (fun K hK => ?_)
          go_simp
          refine ⟨(.bool true), fun W hW => ?_, hK _ ?_⟩
          focus (have h1 := hW.1; go_simp; done)
          clear hK K
          refine stab_yes rfl (fun K hK => ?_)
          go_simp
          refine ⟨_, fun _ _ => rfl, hK _ ?_⟩
          clear hK K
          refine stab_yes rfl (fun K hK => ?_)
          go_simp
          refine ⟨_, fun _ _ => rfl, hK _ ?_⟩
          clear hK K
          refine stab_yes rfl (fun K hK => ?_)
          go_simp
          refine ⟨_, fun _ _ => rfl, hK _ ?_⟩
          clear hK K
          refine stab_yes rfl (fun K hK => ?_)
          go_simp
          refine ⟨(.pointer (some ⟨gW, 0, none⟩)), fun W hW => ?_, hK _ ?_⟩
          focus (have h1 := hW.2.1; go_simp; done)
          clear hK K
          refine stab_yes rfl (fun K hK => ?_)
          go_simp
          refine ⟨_, fun _ _ => rfl, hK _ ?_⟩
          clear hK K
          refine stab_yes rfl (fun K hK => ?_)
          go_simp
          refine ⟨(.int .u64 (x : Int)), fun W hW => ?_, hK _ ?_⟩
          focus (have h1 := hW.2.2; go_simp; done)
          clear hK K
          refine stab_one rfl (fun K hK => ?_)
          go_wp2_with fail
          refine (HHE.out _).mono ?_
          rintro e w8 ⟨rfl, q8, rfl⟩
          go_wp2
          have HX7 := Lib.hid ((Ext.refl w1).drewN (1 + q8))
          generalize w1.drewN (1 + q8) = w7 at HX7 ⊢
          refine ⟨fun _ => HTH.out _ (fun _ => False) (Only.of_ext HX7.out) (fun _ h => h.elim), ?_⟩
          refine stab_one rfl (fun K hK => ?_)
          go_wp2
          refine ⟨fun _ => HTH.out _ (fun _ => False) (Only.of_ext HX7.out) (fun _ h => h.elim), ?_⟩
          refine stab_one rfl (fun K hK => ?_)
          go_wp2_with fail
          refine (HRF.out w7 HX7.out).mono ?_
          rintro e w2 ⟨ho2, v2, rfl, rfl, hrr2⟩
          have HA3 := Lib.hid ((HA2.out.more HC.out HG.out HX7.out).ref HC.out HG.out ho2 hrr2)
          have HA4 := Lib.hid (HA3.out.setO HC.out HG.out)
          have c4 := HA3.out.ck
          have z4 := HA3.out.zk
          have HT2 := Lib.hid (HTH.out w2 (fun k => k = gW) ((Only.of_ext HX7.out).trans ho2) (fun _ h => h))
          clear ho2 hrr2
          go_wp2
          refine ⟨fun _ => HT2.out, ?_⟩
          refine stab_one rfl (fun K hK => ?_)
          go_wp2
          refine ⟨fun h => absurd h (by decide), ?_⟩
          refine stab_one rfl (fun K hK => ?_)
          go_wp2
          refine ⟨fun h => absurd h (by decide), ?_⟩
          refine stab_one rfl (fun K hK => ?_)
          go_wp2
          refine ⟨fun h => absurd h (by decide), ?_⟩
          unfold wpStab
          go_wp2
          go_roundg gh
          case measure => omega
          case rel => exact ⟨k + 1, r, _, by omega, by go_num, HP2.out, HA4.out⟩
      have t4 : (q == 4) = false := beq_eq_false_iff_ne.2 h4
      by_cases h5 : q = 5
      · obtain ⟨y, hy⟩ : ∃ y, x % 17 = y := ⟨_, rfl⟩
        have hstp : crStep l k rest = .er (if y = 0 then 1 else y) := by rw [HST.out, if_neg h1, if_neg h2, if_neg h3, if_neg h4, if_pos h5, hy]
        subst h5
        have e1 : (x : Int) % 17 = (y : Int) := by omega
        have e1' : (x : Int).tmod 17 = (y : Int) := by rw [Int.tmod_eq_emod_of_nonneg (by omega)]; exact e1
        have e2 : IntKind.u64.wrap (y : Int) = (y : Int) := by rw [IntKind.wrap_u64]; omega
        have e3 : IntKind.i64.wrap (y : Int) = (y : Int) := IntWalk.i64_in _ (by omega)
        have HSP := Lib.hid hstp
        have HL := Lib.hid (HC.out.fail lo hi Bz ρ _ rest y HA1.out.ri (by omega))
        clear hy hstp
        go_wp2_with fail
        refine HL.out.mono ?_
        rintro e w1 ⟨ho1, ch, rfl, hst⟩
        exact ⟨rfl, .inr (.inl ⟨_, ch, rfl, hst, CrJ.fail HG.out HA1.out ho1 (by rw [HN.out]; exact hk) HPRE.out HSP.out⟩)⟩
      have t5 : (q == 5) = false := beq_eq_false_iff_ne.2 h5
      clear h1 h2 h3 h4 h5 s1
      go_wp2
      go_roundg gh
      case measure => omega
      case rel => exact ⟨k + 1, rest, _, by omega, by go_num, HPRE.out, HA1.out⟩
end Go.Proofs.Ytlkaggjnfidliaa

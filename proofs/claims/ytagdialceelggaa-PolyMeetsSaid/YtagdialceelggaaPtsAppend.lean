/-
  What append does with slices of points of a call's own, in terms of the lists that they read as. Conditions: the lengths add up to no more than 2^40.
-/
import Derived.Test.YtagdialceelggaaAppend
import Derived.Test.YtagdialceelggaaPts
namespace Go.Proofs.Ytagdialceelggaa
open Go.RowKit
open Pol (px py)

theorem pt_info : (Try.prog.info? 46).map (fun i => (i.zero, i.size, i.bytes)) = some (some (.agg #[.int .u8 0, .int .u8 0]), 2, 2) := by kernel_rfl
theorem pv_len (l : List (Nat × Nat)) : (pv l).length = l.length * 2 := by
  induction l with
  | nil => rfl
  | cons p l ih =>
    have e : pv (p :: l) = Value.int .u8 ((p.1 : Nat) : Int) :: Value.int .u8 ((p.2 : Nat) : Int) :: pv l := rfl
    rw [e]
    simp only [List.length_cons, ih]
    omega
theorem pv_append (l m : List (Nat × Nat)) : pv (l ++ m) = pv l ++ pv m := by simp [pv]
theorem pv_one (l : List (Nat × Nat)) : ∀ u ∈ pv l, u.oneCell' = true := by
  intro u hu
  obtain ⟨p, _, hp⟩ := List.mem_flatMap.1 hu
  simp at hp
  rcases hp with rfl | rfl <;> rfl
/-- A slice of the call's own, of the points l. -/
def PMine (w : World) (base : Nat) (v : Value) (l : List (Nat × Nat)) : Prop := w.ownsRow base 46 2 v l.length (pv l)
theorem PMine.nil (w : World) (base : Nat) : PMine w base (.slice none 0 0) [] := World.ownsRow_nil w base _ _
theorem PMine.slice {w : World} {base : Nat} {v : Value} {l : List (Nat × Nat)} (h : PMine w base v l) (hs : Pol.PSm l) : ∃ B c, v = .slice B l.length c ∧ l.length ≤ c ∧ PRd w B l := by
  rcases h.2 with ⟨rfl, hn⟩ | ⟨g, cap, cur, rfl, _, hg, hnc, _, _, htake⟩
  · have : l = [] := List.eq_nil_of_length_eq_zero hn
    subst this
    exact ⟨none, 0, rfl, Nat.le_refl _, PRd.nil _ _⟩
  · have hat : ∀ j, j < l.length * 2 → w.cell? ⟨g, 0 + j, none⟩ = (pv l)[j]? := fun j hj => by
      rw [Nat.zero_add, cell_of_row w g j cur _ _ hg, ← htake, List.getElem?_take, if_pos hj]
      simp
    refine ⟨_, cap, rfl, hnc, hs, fun i hi => ⟨g, 0, rfl, ?_, ?_⟩⟩
    · rw [hat _ (by omega), (pv_at l i hi).1]
    · rw [Nat.add_assoc, hat _ (by omega), (pv_at l i hi).2]
theorem PMine.kept {w w' : World} {base : Nat} {v : Value} {l : List (Nat × Nat)} (h : PMine w base v l) (hx : Ext w w') : PMine w' base v l :=
  World.ownsRow.kept h (row := none) ⟨hx.below.os, hx.below.tape, hx.below.output, hx.below.size, fun k hk _ => hx.below.block k hk⟩ (by
    cases hb : v.ownBlock with
    | none => exact .inl rfl
    | some k => exact .inr (by simp))

theorem run_append_prd (w : World) (base : Nat) (ty : TypeId) (v : Value) (l m : List (Nat × Nat)) (hown : PMine w base v l) (A : Option Addr) (c : Nat) (hr : PRd w A m)
    (hlen : l.length + m.length ≤ 1099511627776) (hbase : base ≤ w.heap.size) :
    ∃ v' w', (Builtin.append_ #[37, 37] ty #[v, .slice A m.length c]).run Try.prog w = .ok v' w' ∧ PMine w' base v' (l ++ m) ∧ w.grownBy w' v.ownBlock ∧ (v'.ownBlock = v.ownBlock ∨ v'.ownBlock = some w.heap.size) := by
  obtain ⟨i0, hi, hz0, hz1, hz2⟩ := info_parts pt_info
  cases A with
  | none =>
    have hm : m = [] := by
      rcases Nat.eq_zero_or_pos m.length with h | h
      · exact List.eq_nil_of_length_eq_zero h
      · obtain ⟨_, _, e, _⟩ := hr.2 0 h; cases e
    subst hm
    refine ⟨v, w, ?_, by simpa using hown, ⟨rfl, rfl, rfl, Nat.le_refl _, fun _ _ _ => rfl⟩, .inl rfl⟩
    rcases hown.2 with ⟨rfl, _⟩ | ⟨g, cap, cur, rfl, _, _, hnc, _⟩
    · simp [Builtin.append_, run_underlying Try.underlying37, sizeOf, typeInfo, hi, Builtin.lenOf, Builtin.firstCells]
    · simp [Builtin.append_, run_underlying Try.underlying37, sizeOf, typeInfo, hi, Builtin.lenOf, Builtin.firstCells, hnc, storeCells]
  | some a =>
    have hcells : ∀ j u, (pv m)[j]? = some u → w.cell? (a.add j) = some u := by
      intro j u hu
      have hj : j < m.length * 2 := by
        have := (List.getElem?_eq_some_iff.1 hu).1
        rwa [pv_len] at this
      obtain ⟨b, o, e, h1, h2⟩ := hr.2 (j / 2) (by omega)
      injection e with e
      subst e
      have hp := pv_at m (j / 2) (by omega)
      rw [addr_add]
      rcases Nat.mod_two_eq_zero_or_one j with hj2 | hj2
      · have ej : j / 2 * 2 = j := by omega
        rw [ej] at h1 hp
        rw [h1, ← hp.1, hu]
      · have ej : j / 2 * 2 + 1 = j := by omega
        rw [Nat.add_assoc, ej] at h2
        rw [ej] at hp
        rw [h2, ← hp.2, hu]
    obtain ⟨v', w', h1, h2, h3, _, h5⟩ := run_append_own_at (P := Try.prog) w base 37 ty 46 i0 (.agg #[.int .u8 0, .int .u8 0]) 2 2 Try.underlying37 hi hz0 hz1 hz2 rfl (by omega) v l.length (pv l) hown a m.length c (pv m) (pv_len m) hcells (pv_one m)
      (by unfold maxLen; omega) (by omega) hbase
    exact ⟨v', w', h1, by unfold PMine; rw [List.length_append, pv_append]; exact h2, h3, h5⟩

/-- At the operation, for the walk. -/
theorem wpList_append_prd {ops : Array Oper} {rest : List Oper} {o : Oper} {a : Act} {w : World} {Q : Exit → Act → World → Prop} (hgd : o.guard = none) (s x : Operand)
    (ho : o.op = .call { callee := .builtin .append, args := #[s, x], argTypes := #[37, 37] })
    (base : Nat) (v : Value) (l m : List (Nat × Nat)) (hs : a.eval s = v) (hown : PMine w base v l) (A : Option Addr) (n c : Nat) (hx : a.eval x = .slice A n c) (hn : m.length = n) (hr : PRd w A m)
    (hlen : l.length + m.length ≤ 1099511627776) (hbase : base ≤ w.heap.size)
    (h : ∀ v' w', PMine w' base v' (l ++ m) → w.grownBy w' v.ownBlock → (v'.ownBlock = v.ownBlock ∨ v'.ownBlock = some w.heap.size) → wpList Try.prog ops Q rest (a.put o.dst v') w') :
    wpList Try.prog ops Q (o :: rest) a w := by
  subst hn
  refine wpList_plain hgd fun K hK => ?_
  obtain ⟨v', w', hrun, h2, h3, h4⟩ := run_append_prd w base o.type v l m hown A c hr hlen hbase
  unfold Oper.wp execOp
  simp only [ho, resolve, invoke, builtin, Sem.run_bind, Sem.run_pure, Result.andThen_ok, List.map_toArray, List.map_cons, List.map_nil, hs, hx, hrun]
  exact hK _ _ (h v' w' h2 h3 h4)
/-- In a region that draws its order. -/
theorem step_append_prd {ops : Array Oper} {o : Oper} {a : Act} {w : World} {K : Act → World → Prop} {Q : Exit → Act → World → Prop} {E : Prop} (hgd : o.guard = none) (s x : Operand)
    (ho : o.op = .call { callee := .builtin .append, args := #[s, x], argTypes := #[37, 37] })
    (base : Nat) (v : Value) (l m : List (Nat × Nat)) (hs : a.eval s = v) (hown : PMine w base v l) (A : Option Addr) (n c : Nat) (hx : a.eval x = .slice A n c) (hn : m.length = n) (hr : PRd w A m)
    (hlen : l.length + m.length ≤ 1099511627776) (hbase : base ≤ w.heap.size)
    (h : ∀ v' w', PMine w' base v' (l ++ m) → w.grownBy w' v.ownBlock → (v'.ownBlock = v.ownBlock ∨ v'.ownBlock = some w.heap.size) → K (a.put o.dst v') w') :
    if Region.wanted o (yielded ops a.tmps) = true then Oper.wp Try.prog o a w K Q else E := by
  subst hn
  rw [if_pos (by simp [Region.wanted, hgd])]
  obtain ⟨v', w', hrun, h2, h3, h4⟩ := run_append_prd w base o.type v l m hown A c hr hlen hbase
  unfold Oper.wp execOp
  simp only [ho, resolve, invoke, builtin, Sem.run_bind, Sem.run_pure, Result.andThen_ok, List.map_toArray, List.map_cons, List.map_nil, hs, hx, hrun]
  exact h v' w' h2 h3 h4
/-- What an append wrote is the call's own. -/
theorem PMine.block {w : World} {base : Nat} {v : Value} {l : List (Nat × Nat)} (h : PMine w base v l) : ∀ k, v.ownBlock = some k → base ≤ k := fun k hk => (World.ownsRow.lt h k hk).1
/-- Two slices do not share a block. -/
def Sep (v1 v2 : Value) : Prop := ∀ k, v1.ownBlock = some k → v2.ownBlock ≠ some k
theorem Sep.symm {v1 v2 : Value} (h : Sep v1 v2) : Sep v2 v1 := fun k h2 h1 => h k h1 h2
theorem Sep.nil (v : Value) : Sep (.slice none 0 0) v := fun k h => by simp [Value.ownBlock] at h
theorem PMine.other {w w' : World} {base : Nat} {v1 v2 : Value} {l : List (Nat × Nat)} (h : PMine w base v2 l) (hg : w.grownBy w' v1.ownBlock) (hs : Sep v1 v2) : PMine w' base v2 l :=
  World.ownsRow.kept h hg (by
    cases hb : v2.ownBlock with
    | none => exact .inl rfl
    | some k => exact .inr (fun e => hs k e.symm hb))
theorem Sep.step {w : World} {base : Nat} {v1 v1' v2 : Value} {l : List (Nat × Nat)} (hs : Sep v1 v2) (hat : v1'.ownBlock = v1.ownBlock ∨ v1'.ownBlock = some w.heap.size) (h : PMine w base v2 l) : Sep v1' v2 := fun k h1 h2 => by
  rcases hat with e | e
  · exact hs k (e ▸ h1) h2
  · have := (World.ownsRow.lt h k h2).2
    rw [e] at h1
    injection h1 with h1
    omega
end Go.Proofs.Ytagdialceelggaa

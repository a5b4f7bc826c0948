/-
  Slices of slices of bytes that read as a list of rows: what it means, that it stays while only new blocks are laid, and what append does with such slices of a call's own. Conditions: the lengths add up to no more than 2^40.
-/
import Derived.Test.YtlncelfacfflhaaAppend
import Derived.Test.YtlncelfacfflhaaTab
namespace Go.Proofs.Ytlncelfacfflhaa
open Go.RowKit
open Pol (co Sm)

/-- A row. -/
def ro (rows : List (List Nat)) (i : Nat) : List Nat := rows[i]?.getD []
theorem ro_append_left (a b : List (List Nat)) (i : Nat) (h : i < a.length) : ro (a ++ b) i = ro a i := by unfold ro; rw [List.getElem?_append_left h]
theorem ro_append_right (a b : List (List Nat)) (i : Nat) (h : a.length ≤ i) : ro (a ++ b) i = ro b (i - a.length) := by unfold ro; rw [List.getElem?_append_right h]
theorem ro_mem {rows : List (List Nat)} {r : List Nat} (h : r ∈ rows) : ∃ i, i < rows.length ∧ ro rows i = r := by
  obtain ⟨i, hi, e⟩ := List.mem_iff_getElem.1 h
  exact ⟨i, hi, by unfold ro; rw [List.getElem?_eq_getElem hi]; exact e⟩
theorem ro_in (rows : List (List Nat)) (i : Nat) (h : i < rows.length) : ro rows i ∈ rows := by
  unfold ro
  rw [List.getElem?_eq_getElem h]
  exact List.getElem_mem h
theorem ro_ext {a b : List (List Nat)} (hl : a.length = b.length) (h : ∀ i, i < a.length → ro a i = ro b i) : a = b := by
  apply List.ext_getElem hl
  intro i h1 h2
  have := h i h1
  unfold ro at this
  rw [List.getElem?_eq_getElem h1, List.getElem?_eq_getElem h2] at this
  exact this
/-- From address A on lie the rows. -/
def RRd (w : World) (A : Option Addr) (rows : List (List Nat)) : Prop :=
  ∀ i, i < rows.length → ∃ b o B c, A = some ⟨b, o, none⟩ ∧ w.cell? ⟨b, o + i, none⟩ = some (.slice B (ro rows i).length c) ∧ (ro rows i).length ≤ c ∧ Rd w B (ro rows i)
theorem RRd.ext {w w' : World} {A : Option Addr} {rows : List (List Nat)} (h : RRd w A rows) (hx : Ext w w') : RRd w' A rows := fun i hi => by
  obtain ⟨b, o, B, c, e, hc, hl, hr⟩ := h i hi
  exact ⟨b, o, B, c, e, (hx.below.cell (p := ⟨b, o + i, none⟩) (block_lt_of_cell hc)).trans hc, hl, hr.ext hx⟩
theorem RRd.nil (w : World) (A : Option Addr) : RRd w A [] := fun i hi => absurd hi (by simp)
theorem RRd.sm {w : World} {A : Option Addr} {rows : List (List Nat)} (h : RRd w A rows) : ∀ r ∈ rows, Sm r := fun r hr => by
  obtain ⟨i, hi, rfl⟩ := ro_mem hr
  obtain ⟨_, _, _, _, _, _, _, hrd⟩ := h i hi
  exact hrd.1
/-- Values that are slices of these rows. -/
def RowsV (w : World) (vs : List Value) (rows : List (List Nat)) : Prop := vs.length = rows.length ∧ ∀ i, i < rows.length → ∃ B c, vs[i]? = some (.slice B (ro rows i).length c) ∧ (ro rows i).length ≤ c ∧ Rd w B (ro rows i)
/-- None of them lies in a block. -/
def Far (vs : List Value) (row : Option Nat) : Prop := ∀ (i : Nat) (b o n c : Nat), vs[i]? = some (.slice (some ⟨b, o, none⟩) n c) → 0 < n → some b ≠ row
theorem RowsV.keep {w w' : World} {vs : List Value} {rows : List (List Nat)} {row : Option Nat} (h : RowsV w vs rows) (hg : w.grownBy w' row) (hf : Far vs row) : RowsV w' vs rows :=
  ⟨h.1, fun i hi => by
    obtain ⟨B, c, hv, hl, hr⟩ := h.2 i hi
    refine ⟨B, c, hv, hl, hr.1, fun j hj => ?_⟩
    obtain ⟨b, o, e, hc⟩ := hr.2 j hj
    exact ⟨b, o, e, hg.cell hc (hf i b o _ c (by rw [hv, e]) (by omega))⟩⟩
theorem RowsV.ext {w w' : World} {vs : List Value} {rows : List (List Nat)} (h : RowsV w vs rows) (hx : Ext w w') : RowsV w' vs rows :=
  ⟨h.1, fun i hi => by
    obtain ⟨B, c, hv, hl, hr⟩ := h.2 i hi
    exact ⟨B, c, hv, hl, hr.ext hx⟩⟩
theorem RowsV.append {w : World} {vs us : List Value} {rows more : List (List Nat)} (h : RowsV w vs rows) (k : RowsV w us more) : RowsV w (vs ++ us) (rows ++ more) :=
  ⟨by rw [List.length_append, List.length_append, h.1, k.1], fun i hi => by
    rw [List.length_append] at hi
    by_cases hl : i < rows.length
    · rw [ro_append_left _ _ _ hl, List.getElem?_append_left (by rw [h.1]; exact hl)]
      exact h.2 i hl
    · rw [ro_append_right _ _ _ (by omega), List.getElem?_append_right (by rw [h.1]; omega), h.1]
      exact k.2 (i - rows.length) (by omega)⟩
theorem RowsV.lt {w : World} {vs : List Value} {rows : List (List Nat)} (h : RowsV w vs rows) {i b o n c : Nat} (hi : vs[i]? = some (.slice (some ⟨b, o, none⟩) n c)) (hn : 0 < n) : b < w.heap.size := by
  have hil : i < rows.length := by rw [← h.1]; exact (List.getElem?_eq_some_iff.1 hi).1
  obtain ⟨B, c', hv, hl, hr⟩ := h.2 i hil
  rw [hv] at hi
  injection hi with hi
  injection hi with e1 e2 e3
  subst e2
  obtain ⟨b', o', e, hc⟩ := hr.2 0 hn
  rw [e] at e1
  injection e1 with e1
  injection e1 with e1 _
  rw [← e1]
  exact block_lt_of_cell hc
theorem RowsV.one {w : World} {vs : List Value} {rows : List (List Nat)} (h : RowsV w vs rows) : ∀ u ∈ vs, u.oneCell' = true := fun u hu => by
  obtain ⟨i, hi, e⟩ := List.mem_iff_getElem.1 hu
  obtain ⟨B, c, hv, _⟩ := h.2 i (by rw [← h.1]; exact hi)
  rw [List.getElem?_eq_getElem hi, e] at hv
  injection hv with hv
  rw [hv]
  rfl
theorem RRd.vals {w : World} {A : Option Addr} {rows : List (List Nat)} (h : RRd w A rows) : ∃ vs, RowsV w vs rows ∧ ∀ j u, vs[j]? = some u → ∃ b o, A = some ⟨b, o, none⟩ ∧ w.cell? ⟨b, o + j, none⟩ = some u := by
  rcases Nat.eq_zero_or_pos rows.length with h0 | h0
  · have : rows = [] := List.eq_nil_of_length_eq_zero h0
    subst this
    exact ⟨[], ⟨rfl, fun i hi => absurd hi (by simp)⟩, fun j u hj => by simp at hj⟩
  · obtain ⟨b, o, _, _, rfl, _⟩ := h 0 h0
    have hat : ∀ i, i < rows.length → ∃ B c, w.cell? ⟨b, o + i, none⟩ = some (.slice B (ro rows i).length c) ∧ (ro rows i).length ≤ c ∧ Rd w B (ro rows i) := fun i hi => by
      obtain ⟨b', o', B, c, e, hc, hl, hr⟩ := h i hi
      injection e with e
      injection e with e1 e2
      subst e1; subst e2
      exact ⟨B, c, hc, hl, hr⟩
    have hget : ∀ j, j < rows.length → ((List.range rows.length).map fun i => (w.cell? ⟨b, o + i, none⟩).getD undef)[j]? = some ((w.cell? ⟨b, o + j, none⟩).getD undef) := fun j hj => by
      rw [List.getElem?_map, List.getElem?_range hj]; rfl
    refine ⟨(List.range rows.length).map fun i => (w.cell? ⟨b, o + i, none⟩).getD undef, ⟨by simp, fun i hi => ?_⟩, fun j u hj => ⟨b, o, rfl, ?_⟩⟩
    · obtain ⟨B, c, hc, hl, hr⟩ := hat i hi
      exact ⟨B, c, by rw [hget i hi, hc]; rfl, hl, hr⟩
    · have hjl : j < rows.length := by
        have := (List.getElem?_eq_some_iff.1 hj).1
        simpa using this
      obtain ⟨B, c, hc, _⟩ := hat j hjl
      rw [hget j hjl, hc] at hj
      rw [hc]
      exact hj

theorem row_info : (Try.prog.info? 27).map (fun i => (i.zero, i.size, i.bytes)) = some (some (.slice none 0 0), 1, 24) := by kernel_rfl
/-- A slice of the call's own, of rows. -/
structure MineR (w : World) (base : Nat) (v : Value) (rows : List (List Nat)) : Prop where
  has : ∃ vs, w.ownsRow base 27 1 v rows.length vs ∧ RowsV w vs rows ∧ Far vs v.ownBlock
theorem MineR.nil (w : World) (base : Nat) : MineR w base (.slice none 0 0) [] := ⟨[], World.ownsRow_nil w base _ _, ⟨rfl, fun i hi => absurd hi (by simp)⟩, fun i b o n c h => by simp at h⟩
theorem mineR_empty (w : World) : MineR (w.alloc (.cells #[] 27)) w.heap.size (.slice (some ⟨w.heap.size, 0, none⟩) 0 0) [] :=
  ⟨[], World.ownsRow_lit w #[] 0 (Nat.le_refl _) (Nat.zero_le _) rfl, ⟨rfl, fun i hi => absurd hi (by simp)⟩, fun i b o n c h => by simp at h⟩
theorem MineR.slice {w : World} {base : Nat} {v : Value} {rows : List (List Nat)} (h : MineR w base v rows) : ∃ A c, v = .slice A rows.length c ∧ rows.length ≤ c ∧ RRd w A rows := by
  obtain ⟨vs, hown, hv, _⟩ := h.has
  rcases hown.2 with ⟨rfl, hn⟩ | ⟨g, cap, cur, rfl, _, hg, hnc, _, _, htake⟩
  · have : rows = [] := List.eq_nil_of_length_eq_zero hn
    subst this
    exact ⟨none, 0, rfl, Nat.le_refl _, RRd.nil _ _⟩
  · refine ⟨_, cap, rfl, hnc, fun i hi => ?_⟩
    obtain ⟨B, c, h1, h2, h3⟩ := hv.2 i hi
    refine ⟨g, 0, B, c, rfl, ?_, h2, h3⟩
    rw [Nat.zero_add, cell_of_row w g i cur _ _ hg, ← h1, ← htake, List.getElem?_take, if_pos (by omega)]
    simp
theorem MineR.block {w : World} {base : Nat} {v : Value} {rows : List (List Nat)} (h : MineR w base v rows) : ∀ k, v.ownBlock = some k → base ≤ k ∧ k < w.heap.size := fun k hk => by
  obtain ⟨vs, hown, _⟩ := h.has
  exact World.ownsRow.lt hown k hk
theorem MineR.ext {w w' : World} {base : Nat} {v : Value} {rows : List (List Nat)} (h : MineR w base v rows) (hx : Ext w w') : MineR w' base v rows := by
  obtain ⟨vs, hown, hv, hf⟩ := h.has
  refine ⟨vs, World.ownsRow.kept hown (row := none) ⟨hx.below.os, hx.below.tape, hx.below.output, hx.below.size, fun k hk _ => hx.below.block k hk⟩ (by
    cases hb : v.ownBlock with
    | none => exact .inl rfl
    | some k => exact .inr (by simp)), hv.ext hx, hf⟩
/-- Behind a write into another block of the call's own. -/
theorem run_append_rows (w : World) (base : Nat) (ty : TypeId) (v : Value) (rows more : List (List Nat)) (hown : MineR w base v rows) (A : Option Addr) (c : Nat) (hr : RRd w A more)
    (hfar : ∀ i, i < more.length → ∀ b o n c, (∃ b' o', A = some ⟨b', o', none⟩ ∧ w.cell? ⟨b', o' + i, none⟩ = some (.slice (some ⟨b, o, none⟩) n c)) → 0 < n → some b ≠ v.ownBlock)
    (hlen : rows.length + more.length ≤ 1048576) (hbase : base ≤ w.heap.size) :
    ∃ v' w', (Builtin.append_ #[22, 22] ty #[v, .slice A more.length c]).run Try.prog w = .ok v' w' ∧ MineR w' base v' (rows ++ more) ∧ w.grownBy w' v.ownBlock ∧ (v'.ownBlock = v.ownBlock ∨ v'.ownBlock = some w.heap.size) := by
  obtain ⟨i0, hi, hz0, hz1, hz2⟩ := info_parts row_info
  obtain ⟨vs, hv1, hv2, hv3⟩ := hown.has
  obtain ⟨us, hu1, hu2⟩ := hr.vals
  cases A with
  | none =>
    have hm : more = [] := by
      rcases Nat.eq_zero_or_pos more.length with h | h
      · exact List.eq_nil_of_length_eq_zero h
      · obtain ⟨_, _, _, _, e, _⟩ := hr 0 h; cases e
    subst hm
    refine ⟨v, w, ?_, by simpa using hown, ⟨rfl, rfl, rfl, Nat.le_refl _, fun _ _ _ => rfl⟩, .inl rfl⟩
    rcases hv1.2 with ⟨rfl, _⟩ | ⟨g, cap, cur, rfl, _, _, hnc, _⟩
    · simp [Builtin.append_, run_underlying Try.underlying22, sizeOf, typeInfo, hi, Builtin.lenOf, Builtin.firstCells]
    · simp [Builtin.append_, run_underlying Try.underlying22, sizeOf, typeInfo, hi, Builtin.lenOf, Builtin.firstCells, hnc, storeCells]
  | some a =>
    have hcells : ∀ j u, us[j]? = some u → w.cell? (a.add j) = some u := by
      intro j u hu
      obtain ⟨b, o, e, hc⟩ := hu2 j u hu
      injection e with e
      subst e
      rw [addr_add]
      exact hc
    obtain ⟨v', w', h1, h2, h3, _, h5⟩ := run_append_own_at (P := Try.prog) w base 22 ty 27 i0 (.slice none 0 0) 1 24 Try.underlying22 hi hz0 hz1 hz2 rfl (by omega) v rows.length vs hv1 a more.length c us (by rw [hu1.1, Nat.mul_one]) hcells hu1.one
      (by unfold maxLen; omega) (by omega) hbase
    have hfu : Far us v.ownBlock := fun i b o n c' hu hn => by
      obtain ⟨b', o', e, hc⟩ := hu2 i _ hu
      exact hfar i (by rw [← hu1.1]; exact (List.getElem?_eq_some_iff.1 hu).1) b o n c' ⟨b', o', e, hc⟩ hn
    refine ⟨v', w', h1, ⟨vs ++ us, by rw [List.length_append]; exact h2, (hv2.append hu1).keep h3 ?_, ?_⟩, h3, h5⟩
    · intro i b o n c' hx hn
      by_cases hl : i < vs.length
      · rw [List.getElem?_append_left hl] at hx
        exact hv3 i b o n c' hx hn
      · rw [List.getElem?_append_right (by omega)] at hx
        exact hfu _ b o n c' hx hn
    · intro i b o n c' hx hn
      rcases h5 with e | e
      · rw [e]
        by_cases hl : i < vs.length
        · rw [List.getElem?_append_left hl] at hx
          exact hv3 i b o n c' hx hn
        · rw [List.getElem?_append_right (by omega)] at hx
          exact hfu _ b o n c' hx hn
      · rw [e]
        have hb : b < w.heap.size := (hv2.append hu1).lt hx hn
        exact fun e' => by injection e' with e'; omega
/-- At the operation, for the walk. -/
theorem wpList_append_rows {ops : Array Oper} {rest : List Oper} {o : Oper} {a : Act} {w : World} {Q : Exit → Act → World → Prop} (hgd : o.guard = none) (s x : Operand)
    (ho : o.op = .call { callee := .builtin .append, args := #[s, x], argTypes := #[22, 22] })
    (base : Nat) (v : Value) (rows more : List (List Nat)) (hs : a.eval s = v) (hown : MineR w base v rows) (A : Option Addr) (n c : Nat) (hx : a.eval x = .slice A n c) (hn : more.length = n) (hr : RRd w A more)
    (hfar : ∀ i, i < more.length → ∀ b o n c, (∃ b' o', A = some ⟨b', o', none⟩ ∧ w.cell? ⟨b', o' + i, none⟩ = some (.slice (some ⟨b, o, none⟩) n c)) → 0 < n → some b ≠ v.ownBlock)
    (hlen : rows.length + more.length ≤ 1048576) (hbase : base ≤ w.heap.size)
    (h : ∀ v' w', MineR w' base v' (rows ++ more) → w.grownBy w' v.ownBlock → (v'.ownBlock = v.ownBlock ∨ v'.ownBlock = some w.heap.size) → wpList Try.prog ops Q rest (a.put o.dst v') w') :
    wpList Try.prog ops Q (o :: rest) a w := by
  subst hn
  refine wpList_plain hgd fun K hK => ?_
  obtain ⟨v', w', hrun, h2, h3, h4⟩ := run_append_rows w base o.type v rows more hown A c hr hfar hlen hbase
  unfold Oper.wp execOp
  simp only [ho, resolve, invoke, builtin, Sem.run_bind, Sem.run_pure, Result.andThen_ok, List.map_toArray, List.map_cons, List.map_nil, hs, hx, hrun]
  exact hK _ _ (h v' w' h2 h3 h4)
end Go.Proofs.Ytlncelfacfflhaa

/-
  Part 2 of the texts that the seat's proofs stand on; each part of it begins with its own sentence and conditions. Conditions: those that each theorem names.
-/
import Derived.Test.YtfbnckecfapakaaTornPack1
import Derived.Lib.Hide
import Derived.Lib.SliceRun
import Derived.ArgAppend
import Derived.Orders

/-
  Slices of slices of bytes that read as a list of rows: what it means, that it stays while only new blocks are laid, and what append does with such slices of a call's own. Conditions: the lengths add up to no more than 2^40.
-/
namespace Go.Proofs.Ytfbnckecfapakaa
open Go.RowKit
open Pol (co Sm)

/-- A row. -/
def ro (rows : List (List Nat)) (i : Nat) : List Nat := rows[i]?.getD []
theorem ro_append_left (a b : List (List Nat)) (i : Nat) (h : i < a.length) : ro (a ++ b) i = ro a i := by unfold ro; rw [List.getElem?_append_left h]
theorem ro_append_right (a b : List (List Nat)) (i : Nat) (h : a.length ≤ i) : ro (a ++ b) i = ro b (i - a.length) := by unfold ro; rw [List.getElem?_append_right h]
theorem ro_mem {rows : List (List Nat)} {r : List Nat} (h : r ∈ rows) : ∃ i, i < rows.length ∧ ro rows i = r := by
  obtain ⟨i, hi, e⟩ := List.mem_iff_getElem.1 h
  exact ⟨i, hi, by unfold ro; rw [List.getElem?_eq_getElem hi]; exact e⟩
theorem ro_in (rows : List (List Nat)) (i : Nat) (h : i < rows.length) : ro rows i ∈ rows := by
  unfold ro
  rw [List.getElem?_eq_getElem h]
  exact List.getElem_mem h
theorem ro_ext {a b : List (List Nat)} (hl : a.length = b.length) (h : ∀ i, i < a.length → ro a i = ro b i) : a = b := by
  apply List.ext_getElem hl
  intro i h1 h2
  have := h i h1
  unfold ro at this
  rw [List.getElem?_eq_getElem h1, List.getElem?_eq_getElem h2] at this
  exact this
/-- From address A on lie the rows. -/
def RRd (w : World) (A : Option Addr) (rows : List (List Nat)) : Prop :=
  ∀ i, i < rows.length → ∃ b o B c, A = some ⟨b, o, none⟩ ∧ w.cell? ⟨b, o + i, none⟩ = some (.slice B (ro rows i).length c) ∧ (ro rows i).length ≤ c ∧ Rd w B (ro rows i)
theorem RRd.ext {w w' : World} {A : Option Addr} {rows : List (List Nat)} (h : RRd w A rows) (hx : Ext w w') : RRd w' A rows := fun i hi => by
  obtain ⟨b, o, B, c, e, hc, hl, hr⟩ := h i hi
  exact ⟨b, o, B, c, e, (hx.below.cell (p := ⟨b, o + i, none⟩) (block_lt_of_cell hc)).trans hc, hl, hr.ext hx⟩
theorem RRd.nil (w : World) (A : Option Addr) : RRd w A [] := fun i hi => absurd hi (by simp)
theorem RRd.sm {w : World} {A : Option Addr} {rows : List (List Nat)} (h : RRd w A rows) : ∀ r ∈ rows, Sm r := fun r hr => by
  obtain ⟨i, hi, rfl⟩ := ro_mem hr
  obtain ⟨_, _, _, _, _, _, _, hrd⟩ := h i hi
  exact hrd.1
/-- Values that are slices of these rows. -/
def RowsV (w : World) (vs : List Value) (rows : List (List Nat)) : Prop := vs.length = rows.length ∧ ∀ i, i < rows.length → ∃ B c, vs[i]? = some (.slice B (ro rows i).length c) ∧ (ro rows i).length ≤ c ∧ Rd w B (ro rows i)
/-- None of them lies in a block. -/
def Far (vs : List Value) (row : Option Nat) : Prop := ∀ (i : Nat) (b o n c : Nat), vs[i]? = some (.slice (some ⟨b, o, none⟩) n c) → 0 < n → some b ≠ row
theorem RowsV.keep {w w' : World} {vs : List Value} {rows : List (List Nat)} {row : Option Nat} (h : RowsV w vs rows) (hg : w.grownBy w' row) (hf : Far vs row) : RowsV w' vs rows :=
  ⟨h.1, fun i hi => by
    obtain ⟨B, c, hv, hl, hr⟩ := h.2 i hi
    refine ⟨B, c, hv, hl, hr.1, fun j hj => ?_⟩
    obtain ⟨b, o, e, hc⟩ := hr.2 j hj
    exact ⟨b, o, e, hg.cell hc (hf i b o _ c (by rw [hv, e]) (by omega))⟩⟩
theorem RowsV.ext {w w' : World} {vs : List Value} {rows : List (List Nat)} (h : RowsV w vs rows) (hx : Ext w w') : RowsV w' vs rows :=
  ⟨h.1, fun i hi => by
    obtain ⟨B, c, hv, hl, hr⟩ := h.2 i hi
    exact ⟨B, c, hv, hl, hr.ext hx⟩⟩
theorem RowsV.append {w : World} {vs us : List Value} {rows more : List (List Nat)} (h : RowsV w vs rows) (k : RowsV w us more) : RowsV w (vs ++ us) (rows ++ more) :=
  ⟨by rw [List.length_append, List.length_append, h.1, k.1], fun i hi => by
    rw [List.length_append] at hi
    by_cases hl : i < rows.length
    · rw [ro_append_left _ _ _ hl, List.getElem?_append_left (by rw [h.1]; exact hl)]
      exact h.2 i hl
    · rw [ro_append_right _ _ _ (by omega), List.getElem?_append_right (by rw [h.1]; omega), h.1]
      exact k.2 (i - rows.length) (by omega)⟩
theorem RowsV.lt {w : World} {vs : List Value} {rows : List (List Nat)} (h : RowsV w vs rows) {i b o n c : Nat} (hi : vs[i]? = some (.slice (some ⟨b, o, none⟩) n c)) (hn : 0 < n) : b < w.heap.size := by
  have hil : i < rows.length := by rw [← h.1]; exact (List.getElem?_eq_some_iff.1 hi).1
  obtain ⟨B, c', hv, hl, hr⟩ := h.2 i hil
  rw [hv] at hi
  injection hi with hi
  injection hi with e1 e2 e3
  subst e2
  obtain ⟨b', o', e, hc⟩ := hr.2 0 hn
  rw [e] at e1
  injection e1 with e1
  injection e1 with e1 _
  rw [← e1]
  exact block_lt_of_cell hc
theorem RowsV.one {w : World} {vs : List Value} {rows : List (List Nat)} (h : RowsV w vs rows) : ∀ u ∈ vs, u.oneCell' = true := fun u hu => by
  obtain ⟨i, hi, e⟩ := List.mem_iff_getElem.1 hu
  obtain ⟨B, c, hv, _⟩ := h.2 i (by rw [← h.1]; exact hi)
  rw [List.getElem?_eq_getElem hi, e] at hv
  injection hv with hv
  rw [hv]
  rfl
theorem RRd.vals {w : World} {A : Option Addr} {rows : List (List Nat)} (h : RRd w A rows) : ∃ vs, RowsV w vs rows ∧ ∀ j u, vs[j]? = some u → ∃ b o, A = some ⟨b, o, none⟩ ∧ w.cell? ⟨b, o + j, none⟩ = some u := by
  rcases Nat.eq_zero_or_pos rows.length with h0 | h0
  · have : rows = [] := List.eq_nil_of_length_eq_zero h0
    subst this
    exact ⟨[], ⟨rfl, fun i hi => absurd hi (by simp)⟩, fun j u hj => by simp at hj⟩
  · obtain ⟨b, o, _, _, rfl, _⟩ := h 0 h0
    have hat : ∀ i, i < rows.length → ∃ B c, w.cell? ⟨b, o + i, none⟩ = some (.slice B (ro rows i).length c) ∧ (ro rows i).length ≤ c ∧ Rd w B (ro rows i) := fun i hi => by
      obtain ⟨b', o', B, c, e, hc, hl, hr⟩ := h i hi
      injection e with e
      injection e with e1 e2
      subst e1; subst e2
      exact ⟨B, c, hc, hl, hr⟩
    have hget : ∀ j, j < rows.length → ((List.range rows.length).map fun i => (w.cell? ⟨b, o + i, none⟩).getD undef)[j]? = some ((w.cell? ⟨b, o + j, none⟩).getD undef) := fun j hj => by
      rw [List.getElem?_map, List.getElem?_range hj]; rfl
    refine ⟨(List.range rows.length).map fun i => (w.cell? ⟨b, o + i, none⟩).getD undef, ⟨by simp, fun i hi => ?_⟩, fun j u hj => ⟨b, o, rfl, ?_⟩⟩
    · obtain ⟨B, c, hc, hl, hr⟩ := hat i hi
      exact ⟨B, c, by rw [hget i hi, hc]; rfl, hl, hr⟩
    · have hjl : j < rows.length := by
        have := (List.getElem?_eq_some_iff.1 hj).1
        simpa using this
      obtain ⟨B, c, hc, _⟩ := hat j hjl
      rw [hget j hjl, hc] at hj
      rw [hc]
      exact hj

theorem row_info : (Try.prog.info? 22).map (fun i => (i.zero, i.size, i.bytes)) = some (some (.slice none 0 0), 1, 24) := by kernel_rfl
/-- A slice of the call's own, of rows. -/
structure MineR (w : World) (base : Nat) (v : Value) (rows : List (List Nat)) : Prop where
  has : ∃ vs, w.ownsRow base 22 1 v rows.length vs ∧ RowsV w vs rows ∧ Far vs v.ownBlock
theorem MineR.nil (w : World) (base : Nat) : MineR w base (.slice none 0 0) [] := ⟨[], World.ownsRow_nil w base _ _, ⟨rfl, fun i hi => absurd hi (by simp)⟩, fun i b o n c h => by simp at h⟩
theorem mineR_empty (w : World) : MineR (w.alloc (.cells #[] 22)) w.heap.size (.slice (some ⟨w.heap.size, 0, none⟩) 0 0) [] :=
  ⟨[], World.ownsRow_lit w #[] 0 (Nat.le_refl _) (Nat.zero_le _) rfl, ⟨rfl, fun i hi => absurd hi (by simp)⟩, fun i b o n c h => by simp at h⟩
theorem MineR.slice {w : World} {base : Nat} {v : Value} {rows : List (List Nat)} (h : MineR w base v rows) : ∃ A c, v = .slice A rows.length c ∧ rows.length ≤ c ∧ RRd w A rows := by
  obtain ⟨vs, hown, hv, _⟩ := h.has
  rcases hown.2 with ⟨rfl, hn⟩ | ⟨g, cap, cur, rfl, _, hg, hnc, _, _, htake⟩
  · have : rows = [] := List.eq_nil_of_length_eq_zero hn
    subst this
    exact ⟨none, 0, rfl, Nat.le_refl _, RRd.nil _ _⟩
  · refine ⟨_, cap, rfl, hnc, fun i hi => ?_⟩
    obtain ⟨B, c, h1, h2, h3⟩ := hv.2 i hi
    refine ⟨g, 0, B, c, rfl, ?_, h2, h3⟩
    rw [Nat.zero_add, cell_of_row w g i cur _ _ hg, ← h1, ← htake, List.getElem?_take, if_pos (by omega)]
    simp
theorem MineR.block {w : World} {base : Nat} {v : Value} {rows : List (List Nat)} (h : MineR w base v rows) : ∀ k, v.ownBlock = some k → base ≤ k ∧ k < w.heap.size := fun k hk => by
  obtain ⟨vs, hown, _⟩ := h.has
  exact World.ownsRow.lt hown k hk
theorem MineR.ext {w w' : World} {base : Nat} {v : Value} {rows : List (List Nat)} (h : MineR w base v rows) (hx : Ext w w') : MineR w' base v rows := by
  obtain ⟨vs, hown, hv, hf⟩ := h.has
  refine ⟨vs, World.ownsRow.kept hown (row := none) ⟨hx.below.os, hx.below.tape, hx.below.output, hx.below.size, fun k hk _ => hx.below.block k hk⟩ (by
    cases hb : v.ownBlock with
    | none => exact .inl rfl
    | some k => exact .inr (by simp)), hv.ext hx, hf⟩
set_option maxRecDepth 100000 in
/-- Behind a write into another block of the call's own. -/
theorem run_append_rows (w : World) (base : Nat) (ty : TypeId) (v : Value) (rows more : List (List Nat)) (hown : MineR w base v rows) (A : Option Addr) (c : Nat) (hr : RRd w A more)
    (hfar : ∀ i, i < more.length → ∀ b o n c, (∃ b' o', A = some ⟨b', o', none⟩ ∧ w.cell? ⟨b', o' + i, none⟩ = some (.slice (some ⟨b, o, none⟩) n c)) → 0 < n → some b ≠ v.ownBlock)
    (hlen : rows.length + more.length ≤ 1048576) (hbase : base ≤ w.heap.size) :
    ∃ v' w', (Builtin.append_ #[35, 35] ty #[v, .slice A more.length c]).run Try.prog w = .ok v' w' ∧ MineR w' base v' (rows ++ more) ∧ w.grownBy w' v.ownBlock ∧ (v'.ownBlock = v.ownBlock ∨ v'.ownBlock = some w.heap.size) := by
  obtain ⟨i0, hi, hz0, hz1, hz2⟩ := info_parts row_info
  obtain ⟨vs, hv1, hv2, hv3⟩ := hown.has
  obtain ⟨us, hu1, hu2⟩ := hr.vals
  cases A with
  | none =>
    have hm : more = [] := by
      rcases Nat.eq_zero_or_pos more.length with h | h
      · exact List.eq_nil_of_length_eq_zero h
      · obtain ⟨_, _, _, _, e, _⟩ := hr 0 h; cases e
    subst hm
    refine ⟨v, w, ?_, by simpa using hown, ⟨rfl, rfl, rfl, Nat.le_refl _, fun _ _ _ => rfl⟩, .inl rfl⟩
    rcases hv1.2 with ⟨rfl, _⟩ | ⟨g, cap, cur, rfl, _, _, hnc, _⟩
    · simp [Builtin.append_, run_underlying Try.underlying35, sizeOf, typeInfo, hi, Builtin.lenOf, Builtin.firstCells]
    · simp [Builtin.append_, run_underlying Try.underlying35, sizeOf, typeInfo, hi, Builtin.lenOf, Builtin.firstCells, hnc, storeCells]
  | some a =>
    have hcells : ∀ j u, us[j]? = some u → w.cell? (a.add j) = some u := by
      intro j u hu
      obtain ⟨b, o, e, hc⟩ := hu2 j u hu
      injection e with e
      subst e
      rw [addr_add]
      exact hc
    obtain ⟨v', w', h1, h2, h3, _, h5⟩ := run_append_own_at (P := Try.prog) w base 35 ty 22 i0 (.slice none 0 0) 1 24 Try.underlying35 hi hz0 hz1 hz2 rfl (by omega) v rows.length vs hv1 a more.length c us (by rw [hu1.1, Nat.mul_one]) hcells hu1.one
      (by unfold maxLen; omega) (by omega) hbase
    have hfu : Far us v.ownBlock := fun i b o n c' hu hn => by
      obtain ⟨b', o', e, hc⟩ := hu2 i _ hu
      exact hfar i (by rw [← hu1.1]; exact (List.getElem?_eq_some_iff.1 hu).1) b o n c' ⟨b', o', e, hc⟩ hn
    refine ⟨v', w', h1, ⟨vs ++ us, by rw [List.length_append]; exact h2, (hv2.append hu1).keep h3 ?_, ?_⟩, h3, h5⟩
    · intro i b o n c' hx hn
      by_cases hl : i < vs.length
      · rw [List.getElem?_append_left hl] at hx
        exact hv3 i b o n c' hx hn
      · rw [List.getElem?_append_right (by omega)] at hx
        exact hfu _ b o n c' hx hn
    · intro i b o n c' hx hn
      rcases h5 with e | e
      · rw [e]
        by_cases hl : i < vs.length
        · rw [List.getElem?_append_left hl] at hx
          exact hv3 i b o n c' hx hn
        · rw [List.getElem?_append_right (by omega)] at hx
          exact hfu _ b o n c' hx hn
      · rw [e]
        have hb : b < w.heap.size := (hv2.append hu1).lt hx hn
        exact fun e' => by injection e' with e'; omega
/-- At the operation, for the walk. -/
theorem wpList_append_rows {ops : Array Oper} {rest : List Oper} {o : Oper} {a : Act} {w : World} {Q : Exit → Act → World → Prop} (hgd : o.guard = none) (s x : Operand)
    (ho : o.op = .call { callee := .builtin .append, args := #[s, x], argTypes := #[35, 35] })
    (base : Nat) (v : Value) (rows more : List (List Nat)) (hs : a.eval s = v) (hown : MineR w base v rows) (A : Option Addr) (n c : Nat) (hx : a.eval x = .slice A n c) (hn : more.length = n) (hr : RRd w A more)
    (hfar : ∀ i, i < more.length → ∀ b o n c, (∃ b' o', A = some ⟨b', o', none⟩ ∧ w.cell? ⟨b', o' + i, none⟩ = some (.slice (some ⟨b, o, none⟩) n c)) → 0 < n → some b ≠ v.ownBlock)
    (hlen : rows.length + more.length ≤ 1048576) (hbase : base ≤ w.heap.size)
    (h : ∀ v' w', MineR w' base v' (rows ++ more) → w.grownBy w' v.ownBlock → (v'.ownBlock = v.ownBlock ∨ v'.ownBlock = some w.heap.size) → wpList Try.prog ops Q rest (a.put o.dst v') w') :
    wpList Try.prog ops Q (o :: rest) a w := by
  subst hn
  refine wpList_plain hgd fun K hK => ?_
  obtain ⟨v', w', hrun, h2, h3, h4⟩ := run_append_rows w base o.type v rows more hown A c hr hfar hlen hbase
  unfold Oper.wp execOp
  simp only [ho, resolve, invoke, builtin, Sem.run_bind, Sem.run_pure, Result.andThen_ok, List.map_toArray, List.map_cons, List.map_nil, hs, hx, hrun]
  exact hK _ _ (h v' w' h2 h3 h4)
end Go.Proofs.Ytfbnckecfapakaa

/-
  Literals of rows, and rows that lie in newer blocks than another one. Conditions: none.
-/
namespace Go.Proofs.Ytfbnckecfapakaa
open Go.RowKit
open Pol (co Sm)

theorem rrd_lit (w : World) (vs : List Value) (rows : List (List Nat)) (h : RowsV w vs rows) : RRd (w.alloc (.cells vs.toArray 22)) (some ⟨w.heap.size, 0, none⟩) rows := fun i hi => by
  obtain ⟨B, c, hv, hl, hr⟩ := h.2 i hi
  refine ⟨w.heap.size, 0, B, c, rfl, ?_, hl, hr.ext ((Ext.refl _).alloc _)⟩
  rw [cell_of_row _ _ _ _ _ _ (heap_alloc_new w _), Nat.zero_add]
  simpa using hv
theorem rowsV_one {w : World} {v : Value} {l : List Nat} (h : Sl w v l) : RowsV w [v] [l] := ⟨rfl, fun i hi => by
  match i, hi with
  | 0, _ =>
    obtain ⟨B, c, rfl, hc, hr⟩ := h
    exact ⟨B, c, rfl, hc, hr⟩⟩
theorem take_ro (rows : List (List Nat)) (k : Nat) (h : k < rows.length) : rows.take (k + 1) = rows.take k ++ [ro rows k] := by
  rw [List.take_succ_eq_append_getElem h]
  unfold ro
  rw [List.getElem?_eq_getElem h]
  rfl
/-- A literal of one row, whose bytes lie in a block that is new: it lies in no elder block. -/
theorem far_one {w : World} {v : Value} {l : List Nat} {base : Nat} (hm : Mine w base v l) (row : Option Nat) (hrow : ∀ k, row = some k → k < base) (g : Nat) (hg : g = w.heap.size) :
    ∀ i, i < [l].length → ∀ b o n c, (∃ b' o', (some ⟨g, 0, none⟩ : Option Addr) = some ⟨b', o', none⟩ ∧ (w.alloc (.cells #[v] 22)).cell? ⟨b', o' + i, none⟩ = some (.slice (some ⟨b, o, none⟩) n c)) → 0 < n → some b ≠ row := by
  rintro i hi b o n c ⟨b', o', e, hc⟩ hn e'
  subst hg
  injection e with e
  injection e with e1 e2
  subst e1; subst e2
  have hi0 : i = 0 := by simpa using hi
  subst hi0
  rw [cell_of_row _ _ _ _ _ _ (heap_alloc_new w _)] at hc
  have hv : v = .slice (some ⟨b, o, none⟩) n c := by simpa using hc
  have hb := World.ownsRow.lt hm b (by rw [hv]; rfl)
  have := hrow b e'.symm
  omega
end Go.Proofs.Ytfbnckecfapakaa

/-
  Bytes in a block of a call's own, that are changed one by one; what stays while other blocks are written. Conditions: none.
-/
namespace Go.Proofs.Ytfbnckecfapakaa
open Go.RowKit
open Pol (co Sm trim)

/-- The first n cells of block g are the bytes F, and may be written. -/
def Cells (w : World) (g n : Nat) (F : Nat → Nat) : Prop := ∀ i, i < n → w.cell? ⟨g, i, none⟩ = some (.int .u8 ((F i : Nat) : Int)) ∧ w.frozen? ⟨g, i, none⟩ = false
theorem Blk.cells {w : World} {g n : Nat} {F : Nat → Nat} (h : Blk w g n F) : Cells w g n F := fun i hi => ⟨h.cell i hi, h.frozen i⟩
theorem Cells.drewN {w : World} {g n : Nat} {F : Nat → Nat} (h : Cells w g n F) (k : Nat) : Cells (w.drewN k) g n F := h
theorem Cells.congr {w : World} {g n : Nat} {F F' : Nat → Nat} (h : Cells w g n F) (hf : ∀ i, i < n → F i = F' i) : Cells w g n F' := fun i hi => ⟨by rw [(h i hi).1, hf i hi], (h i hi).2⟩
theorem Cells.store {w : World} {g n : Nat} {F : Nat → Nat} (h : Cells w g n F) (k v : Nat) : Cells (w.setCell ⟨g, k, none⟩ (.int .u8 (v : Int))) g n (upd F k v) := fun i hi => by
  refine ⟨?_, by rw [World.frozen?_setCell]; exact (h i hi).2⟩
  unfold upd
  by_cases e : i = k
  · subst e
    rw [if_pos rfl]
    exact World.cell?_setCell_same' _ _ _ (by rw [(h i hi).1]; rfl)
  · rw [if_neg e, World.cell?_setCell_other _ _ _ _ (fun h => e (by cases h; rfl))]
    exact (h i hi).1
theorem Cells.keep {w w' : World} {g n : Nat} {F : Nat → Nat} {row : Option Nat} (h : Cells w g n F) (hg : w.grownBy w' row) (hne : some g ≠ row) : Cells w' g n F := fun i hi =>
  ⟨hg.cell (h i hi).1 hne, (World.frozen?_of_block (a := ⟨g, i, none⟩) (hg.block g (block_lt_of_cell (h i hi).1) hne)).trans (h i hi).2⟩
theorem Cells.ext {w w' : World} {g n : Nat} {F : Nat → Nat} (h : Cells w g n F) (hx : Ext w w') : Cells w' g n F := fun i hi =>
  ⟨(hx.below.cell (p := ⟨g, i, none⟩) (block_lt_of_cell (h i hi).1)).trans (h i hi).1, (hx.below.frozen (p := ⟨g, i, none⟩) (block_lt_of_cell (h i hi).1)).trans (h i hi).2⟩
theorem Cells.reads {w : World} {g n : Nat} {F : Nat → Nat} (h : Cells w g n F) (hs : ∀ i, i < n → F i < 256) : Rd w (some ⟨g, 0, none⟩) (tab n F) :=
  ⟨tab_sm n F hs, fun i hi => ⟨g, 0, rfl, by
    rw [tab_len] at hi
    rw [Nat.zero_add, (h i hi).1, co_tab, if_pos hi]⟩⟩
theorem Rd.keep {w w' : World} {A : Option Addr} {l : List Nat} {row : Option Nat} (h : Rd w A l) (hg : w.grownBy w' row) (hne : ∀ b o, A = some ⟨b, o, none⟩ → 0 < l.length → some b ≠ row) : Rd w' A l :=
  ⟨h.1, fun i hi => by
    obtain ⟨b, o, e, hc⟩ := h.2 i hi
    exact ⟨b, o, e, hg.cell hc (hne b o e (by omega))⟩⟩
theorem grown_set (w : World) (g o : Nat) (v : Value) : w.grownBy (w.setCell ⟨g, o, none⟩ v) (some g) :=
  ⟨rfl, rfl, rfl, by simp [World.setCell], fun k _ hk => Below.heap_setCell _ _ _ k (fun e => hk (by rw [e]))⟩
theorem grown_drewN (w : World) (n : Nat) (row : Option Nat) : w.grownBy (w.drewN n) row := ⟨rfl, rfl, rfl, Nat.le_refl _, fun _ _ _ => rfl⟩
theorem Ext.grown {w w' : World} (h : Ext w w') (row : Option Nat) : w.grownBy w' row := ⟨h.below.os, h.below.tape, h.below.output, h.below.size, fun k hk _ => h.below.block k hk⟩

/-- s[l:] of bytes, where the capacity goes on. -/
theorem run_from_u8 (g o len cap l : Nat) (h : l ≤ len) (hc : l < cap) (W : World) :
    (Instr.slice 22 (.slice (some ⟨g, o, none⟩) len cap) (some (.int .i64 (l : Int))) none none).run Try.prog W = .ok (.slice (some ⟨g, o + l, none⟩) (len - l) (cap - l)) W := by
  obtain ⟨i0, hi, hz0, hz1, hz2⟩ := info_parts u8_info
  have he : Try.prog.elem 22 = 5 := by kernel_rfl
  rw [run_slice_l W 22 _ len cap (by rw [he]; exact Try.underlying22) .i64 (l : Int) (by omega) (by omega), he]
  simp [sizeOf, typeInfo, hi, hz1, Result.andThen, sliced, addr_add]
  omega

/-- A slice of the call's own, as cells that may be written. -/
theorem Mine.cells {w : World} {base : Nat} {v : Value} {l : List Nat} (hm : Mine w base v l) : ∃ A c g, v = .slice A l.length c ∧ l.length ≤ c ∧ (0 < l.length → A = some ⟨g, 0, none⟩ ∧ base ≤ g) ∧ Cells w g l.length (co l) := by
  rcases hm.2 with ⟨rfl, hn⟩ | ⟨g, cap, cur, rfl, hb, hg, hnc, _, _, htake⟩
  · have : l = [] := List.eq_nil_of_length_eq_zero hn
    subst this
    exact ⟨none, 0, 0, rfl, Nat.le_refl _, fun h => absurd h (by simp), fun i hi => absurd hi (by simp)⟩
  · refine ⟨_, cap, g, rfl, hnc, fun _ => ⟨rfl, hb⟩, fun i hi => ⟨?_, frozen_of_row w g i cur _ hg⟩⟩
    rw [cell_of_row w g i cur _ _ hg, ← bv_at l i hi, ← htake, List.getElem?_take, if_pos (by omega)]
    simp
end Go.Proofs.Ytfbnckecfapakaa

/-
  What the document's own All of layer 9 does. Conditions: no more than 2^16 bytes.
-/
namespace Go.Proofs.Ytfbnckecfapakaa
open Go.RowKit
open Pol (co Sm)

def AllR (b : List Nat) (w : World) (e : Ending) (w' : World) : Prop :=
  Ext w w' ∧ ∃ v, e = .returned (.tuple #[v, .int .i64 (((al b).2 : Nat) : Int)]) ∧ MineR w' w.heap.size v (al b).1
theorem tab_drop9 (l : List Nat) (k : Nat) (h : k ≤ l.length) : tab (l.length - k) (fun j => co l (k + j)) = l.drop k := by
  rw [tab_cut l k (l.length - k) (by omega), List.take_of_length_le (by rw [List.length_drop]; omega)]
theorem sm_drop {l : List Nat} (h : Sm l) (k : Nat) : Sm (l.drop k) := Pol.co_lt_of fun x hx => h.mem x (List.mem_of_mem_drop hx)
/-- One frame more. -/
theorem fr_drop {b t r : List Nat} {k : Nat} (h : b.drop k = fr t ++ r) : (b.drop (k + 6)).take t.length = t ∧ b.drop (k + 6 + t.length) = r ∧ (t ≠ [] ∨ True) := by
  have e6 : (fr t ++ r).drop 6 = t ++ r := by
    have h6 : (fr t).drop 6 = t := by
      unfold fr
      show (cbs (crcl t) ++ t).drop 4 = t
      rw [← cbs_len (crcl t), List.drop_left]
    rw [List.drop_append_of_le_length (by rw [fr_len]; omega), h6]
  have e1 : b.drop (k + 6) = t ++ r := by rw [← List.drop_drop, h, e6]
  refine ⟨by rw [e1, List.take_left], by rw [← List.drop_drop, e1, List.drop_left], .inr trivial⟩

set_option maxHeartbeats 1600000 in
set_option maxRecDepth 100000 in
theorem ref9_all (b : List Nat) (A : Option Addr) (ca : Nat) (w : World) (hr : Rd w A b) (hc : b.length ≤ ca) (hl : b.length ≤ 65536) :
    Calls Try.prog 32 #[.slice A b.length ca] w (AllR b w) := by
  unfold AllR
  have HR := Lib.hid hr
  obtain ⟨L, hL⟩ : ∃ L, b.length = L := ⟨_, rfl⟩
  have HL := Lib.hid hL
  rw [hL] at hc hl ⊢
  have HNX := Lib.hid (fun (l : List Nat) X cx W (h : Rd W X l) hc hl => ref9_next l X cx W h hc hl)
  clear hr hL
  go_enter Try.func32, Try.ntmps32
  go_wp2
  go_loopg [4, 5] L (fun g s4 s5 wx => ∃ (k : Nat) (done : List (List Nat)), k + g = L ∧ s5 = .int .i64 (k : Int) ∧ MineR wx w.heap.size s4 done ∧ al b = (done ++ (al (b.drop k)).1, k + (al (b.drop k)).2) ∧ done.length ≤ k ∧ Ext w wx)
  case atStart => exact ⟨0, [], by omega, rfl, MineR.nil _ _, by simp, Nat.le_refl _, Ext.refl _⟩
  case round =>
    obtain ⟨k, done, hkg, rfl, hm, hal, hdk, hx⟩ := hrel
    obtain ⟨X, s1, hX, _⟩ := run_rest_u8 A L ca k (by omega) hc
    have hrk : Rd wr X (b.drop k) := by
      have h := hX wr b (HR.out.ext hx) HL.out
      rw [← HL.out, tab_drop9 b k (by rw [HL.out]; omega)] at h
      exact h
    have hlk : (b.drop k).length = L - k := by rw [List.length_drop, HL.out]
    have HNK := Lib.hid (show Calls Try.prog 40 #[.slice X (L - k) (ca - k)] wr (NextN (b.drop k) wr) from by
      have h := HNX.out (b.drop k) X (ca - k) wr hrk (by rw [hlk]; omega) (by rw [hlk]; omega)
      rw [hlk] at h
      exact h)
    obtain ⟨Av, cv, rfl, hcv, _⟩ := hm.slice
    have HM := Lib.hid hm
    have HX := Lib.hid hx
    have HAL := Lib.hid hal
    have HSR := Lib.hid hrk.1
    clear hX hrk hlk hm hx hal
    go_wp2_with fail
    refine HNK.out.mono ?_
    rintro e w1 ⟨hx1, hn⟩
    cases hnx : nx (b.drop k) with
    | er q =>
      rw [hnx] at hn
      subst hn
      have hq := (nx_er hnx).1
      have d1 : ((q : Int) == 0) = false := by simp; omega
      have d2 : ((q : Int) != 0) = true := by simp; omega
      have d3 : decide (q = 0) = false := decide_eq_false (by omega)
      have HFIN := Lib.hid (show al b = (done, k) from by rw [HAL.out, al_er hnx]; simp)
      have HX1 := Lib.hid (HX.out.trans hx1)
      have HM1 := Lib.hid (HM.out.ext hx1)
      clear hx1 hnx hq
      go_wp2
      go_ret2
      exact ⟨HX1.out, _, by rw [HFIN.out]; rfl, by rw [HFIN.out]; exact HM1.out⟩
    | ok t r =>
      rw [hnx] at hn
      subst hn
      obtain ⟨hfr, hfo⟩ := nx_ok HSR.out hnx
      obtain ⟨ht1, ht2, _⟩ := fr_drop hfr
      have hlen := congrArg List.length hfr
      rw [List.length_drop, List.length_append, fr_len, HL.out] at hlen
      have HAL2 := Lib.hid (show al b = ((done ++ [t]) ++ (al (b.drop (k + 6 + t.length))).1, (k + 6 + t.length) + (al (b.drop (k + 6 + t.length))).2) from by
        rw [HAL.out, al_ok hnx, ht2]
        simp
        omega)
      have hft := hfo
      unfold FrOk at hft
      obtain ⟨n, hn⟩ : ∃ n, t.length = n := ⟨_, rfl⟩
      rw [hn] at ht1 HAL2 hlen hft ⊢
      obtain ⟨k6, hk6⟩ : ∃ q, k + 6 = q := ⟨_, rfl⟩
      rw [hk6] at ht1 HAL2
      obtain ⟨kn, hkn⟩ : ∃ q, k6 + n = q := ⟨_, rfl⟩
      rw [hkn] at HAL2
      have e1 : (k : Int) + 6 = (k6 : Int) := by omega
      have e2 : (k6 : Int) + (n : Int) = (kn : Int) := by omega
      obtain ⟨Y, s2, hY⟩ := run_cut_u8 A L ca k6 kn (by omega) (by omega)
      have HY := Lib.hid (show ∀ W, Ext w W → Rd W Y t from fun W hW => by
        have h := hY W b (HR.out.ext hW) (by rw [HL.out]; omega)
        rw [show kn - k6 = n by omega, tab_cut b k6 n (by rw [HL.out]; omega), ht1] at h
        exact h)
      rw [show kn - k6 = n by omega] at s2
      have HN := Lib.hid hn
      have HST := Lib.hid (show Sm t from (sm_split9 (a := [t.length / 256, t.length % 256] ++ cbs (crcl t)) (b := t) (by
        have h := (sm_split9 (by rw [← hfr]; exact HSR.out)).1
        exact h)).2)
      have HX1 := Lib.hid (HX.out.trans hx1)
      have HM1 := Lib.hid (HM.out.ext hx1)
      have hb5 : kn ≤ L ∧ k < kn := by omega
      have hdl : (done ++ [t]).length ≤ kn := by rw [List.length_append]; simp; omega
      have HDL := Lib.hid hdl
      clear hnx hfr ht1 ht2 hY hx1 hn hlen hft hk6 hdl
      have HDN := Lib.hid (show done.length ≤ 65536 by omega)
      go_wp2_with (first
        | (at_builtin; refine wpList_append_rd rfl (.tmp 20) (.tmp 28) rfl w1.heap.size (.slice (some ⟨w1.heap.size, 0, none⟩) 0 0) [] t rfl (mine_empty w1) Y n (ca - k6) rfl HN.out (HY.out _ (HX1.out.alloc _)) (by rw [HN.out]; simp; omega) (by simp) ?_; intro v7 w7 hown7 hg7 hat7
           rw [List.nil_append] at hown7
           obtain ⟨B7, c7, hv7, hc7, hr7⟩ := hown7.slice HST.out
           have hx7 : Ext w1 w7 := ((Ext.refl w1).alloc _).more hg7 (fun q hq => by simp [Value.ownBlock] at hq; omega)
           have HFAR := Lib.hid (far_one hown7 (Value.slice Av done.length cv).ownBlock (fun q hq => (HM1.out.block q hq).2) w7.heap.size rfl)
           have HRR := Lib.hid (rrd_lit w7 [v7] [t] (rowsV_one ⟨B7, c7, hv7, hc7, hr7⟩))
           rw [HN.out] at hv7
           subst hv7
           have HX7 := Lib.hid hx7
           have hs7 := hx7.size
           have hs1 := HX1.out.size
           clear hown7 hg7 hat7 hx7 hr7 hc7)
        | (at_builtin; refine wpList_append_rows rfl (.tmp 19) (.tmp 30) rfl w.heap.size (.slice Av done.length cv) done [t] rfl (HM1.out.ext (HX7.out.alloc _)) (some ⟨w7.heap.size, 0, none⟩) 1 1 rfl rfl HRR.out HFAR.out (by have := HDN.out; simp; omega) (by simp; omega) ?_; intro v9 w9 hown9 hg9 hat9
           have HX9 := Lib.hid (((HX1.out.trans HX7.out).alloc (.cells #[.slice B7 n c7] 22)).more hg9 (fun q hq => (HM1.out.block q hq).1))
           have HO9 := Lib.hid hown9
           clear hown9 hg9 hat9))
      go_roundg (L - kn)
      case measure => omega
      case rel => exact ⟨kn, done ++ [t], by omega, rfl, HO9.out, HAL2.out, HDL.out, HX9.out⟩
end Go.Proofs.Ytfbnckecfapakaa

/-
  What layer 9's own functions answer, as relations. Conditions: no more than 2^16 bytes.
-/
namespace Go.Proofs.Ytfbnckecfapakaa
open Go.RowKit
open Pol (co Sm)

/-- Bytes of a call's own that may be written; bytes of its own. -/
def OwnW (base : Nat) (v : Value) (w : World) (t : List Nat) : Prop :=
  ∃ B c, v = .slice B t.length c ∧ t.length ≤ c ∧ Rd w B t ∧ ∀ b o, B = some ⟨b, o, none⟩ → 0 < t.length → base ≤ b ∧ ∀ i, i < t.length → w.frozen? ⟨b, o + i, none⟩ = false
def OwnT (base : Nat) (v : Value) (w : World) (t : List Nat) : Prop :=
  ∃ B c, v = .slice B t.length c ∧ t.length ≤ c ∧ Rd w B t ∧ ∀ b o, B = some ⟨b, o, none⟩ → 0 < t.length → base ≤ b
/-- Frame: the frame, or an error and no bytes. -/
def FrameS (l : List Nat) (w : World) (e : Ending) (w' : World) : Prop :=
  Ext w w' ∧ ((FrOk l ∧ ∃ v, e = .returned (.tuple #[v, .int .i64 0]) ∧ OwnT w.heap.size v w' (fr l)) ∨ (¬ FrOk l ∧ ∃ B c, e = .returned (.tuple #[.slice B 0 c, .int .i64 1])))
/-- Next: the body, in bytes that may be written, and the bytes behind it; or an error and no bytes. -/
def NextS (b : List Nat) (w : World) (e : Ending) (w' : World) : Prop :=
  Ext w w' ∧ ((∃ t r v u, nx b = .ok t r ∧ e = .returned (.tuple #[v, u, .int .i64 0]) ∧ OwnW w.heap.size v w' t ∧ OwnT w.heap.size u w' r) ∨ (∃ k B1 c1 B2 c2, nx b = .er k ∧ e = .returned (.tuple #[.slice B1 0 c1, .slice B2 0 c2, .int .i64 (k : Int)])))
/-- All: the bodies, each in bytes that may be written, none of which lies in the list's own block. -/
def AllS (b : List Nat) (w : World) (e : Ending) (w' : World) : Prop :=
  Ext w w' ∧ ∃ R c, e = .returned (.tuple #[.slice R (al b).1.length c, .int .i64 (((al b).2 : Nat) : Int)]) ∧ (al b).1.length ≤ c ∧
    ∀ i, i < (al b).1.length → ∃ g o v, R = some ⟨g, o, none⟩ ∧ w.heap.size ≤ g ∧ w'.cell? ⟨g, o + i, none⟩ = some v ∧ OwnW w.heap.size v w' (ro (al b).1 i) ∧ (∀ b' o' n' c', v = .slice (some ⟨b', o', none⟩) n' c' → b' ≠ g)
theorem AllS.reads {b : List Nat} {w w' : World} {R : Option Addr}
    (h : ∀ i, i < (al b).1.length → ∃ g o v, R = some ⟨g, o, none⟩ ∧ w.heap.size ≤ g ∧ w'.cell? ⟨g, o + i, none⟩ = some v ∧ OwnW w.heap.size v w' (ro (al b).1 i) ∧ (∀ b' o' n' c', v = .slice (some ⟨b', o', none⟩) n' c' → b' ≠ g)) : RRd w' R (al b).1 := fun i hi => by
  obtain ⟨g, o, v, hR, _, hc, ⟨B, c, rfl, hlc, hr, _⟩, _⟩ := h i hi
  exact ⟨g, o, B, c, hR, hc, hlc, hr⟩

/-- What layer 9's functions that others call are to do. -/
structure CrcOwn : Prop where
  frame : ∀ (l : List Nat) (A : Option Addr) (c : Nat) (w : World), Rd w A l → l.length ≤ c → Calls Try.prog 34 #[.slice A l.length c] w (FrameS l w)
  all : ∀ (b : List Nat) (A : Option Addr) (c : Nat) (w : World), Rd w A b → b.length ≤ c → b.length ≤ 65536 → Calls Try.prog 31 #[.slice A b.length c] w (AllS b w)

theorem rd_mark (w : World) (l : List Nat) (fr : Nat × Nat) (h : Sm l) : Rd (w.alloc (.cells (bv l).toArray 5 fr)) (some ⟨w.heap.size, 0, none⟩) l :=
  ⟨h, fun i hi => ⟨w.heap.size, 0, rfl, by
    rw [cell_of_row _ _ _ _ _ _ (heap_alloc_new w _), Nat.zero_add]
    simpa using bv_at l i hi⟩⟩
end Go.Proofs.Ytfbnckecfapakaa

/-
  Frames in a row, and what All tells of them, in short. Conditions: none; no function is named here.
-/
namespace Go.Proofs.Ytfbnckecfapakaa
open Go.RowKit
open Pol (co Sm)

theorem fl_take_succ (rows : List (List Nat)) (i : Nat) (h : i < rows.length) : fl (rows.take (i + 1)) = fl (rows.take i) ++ fr (ro rows i) := by
  rw [take_ro rows i h, fl_app]
  unfold fl
  simp
theorem fl_take_le (rows : List (List Nat)) (i : Nat) : (fl (rows.take i)).length ≤ (fl rows).length := by
  have h : fl rows = fl (rows.take i) ++ fl (rows.drop i) := by rw [← fl_app, List.take_append_drop]
  rw [h, List.length_append]
  omega
theorem fl_sm {rows : List (List Nat)} (h : ∀ t ∈ rows, FrOk t ∧ Sm t) : Sm (fl rows) := by
  unfold fl
  refine Pol.co_lt_of fun x hx => ?_
  obtain ⟨l, hl, hxl⟩ := List.mem_flatten.1 hx
  obtain ⟨t, ht, rfl⟩ := List.mem_map.1 hl
  exact (fr_sm (h t ht).2 (h t ht).1).mem x hxl
/-- What All tells, in short. -/
structure AlOk (b : List Nat) (rows : List (List Nat)) (n : Nat) : Prop where
  flat : fl rows = b.take n
  le : n ≤ b.length
  ok : ∀ t ∈ rows, FrOk t ∧ Sm t
  flen : (fl rows).length = n
  few : rows.length ≤ n
theorem alOk (b : List Nat) (hs : Sm b) : AlOk b (al b).1 (al b).2 := by
  obtain ⟨h1, h2, h3⟩ := al_flat b hs
  have hl : (fl (al b).1).length = (al b).2 := by rw [h1, List.length_take]; omega
  refine ⟨h1, h2, h3, hl, ?_⟩
  rw [← hl]
  have : ∀ rows : List (List Nat), rows.length ≤ (fl rows).length := fun rows => by
    induction rows with
    | nil => exact Nat.zero_le _
    | cons t rows ih => rw [fl_cons, List.length_append, fr_len, List.length_cons]; omega
  exact this _
def AllT (rows : List (List Nat)) (n : Nat) (w : World) (e : Ending) (w' : World) : Prop :=
  Ext w w' ∧ ∃ R c, e = .returned (.tuple #[.slice R rows.length c, .int .i64 (n : Int)]) ∧ rows.length ≤ c ∧ RRd w' R rows
theorem AllS.any {b : List Nat} {w w' : World} {e : Ending} (h : AllS b w e w') : AllT (al b).1 (al b).2 w e w' := by
  obtain ⟨hx, R, c, he, hc, hr⟩ := h
  exact ⟨hx, R, c, he, hc, AllS.reads hr⟩
theorem AllR.any {b : List Nat} {w w' : World} {e : Ending} (h : AllR b w e w') : AllT (al b).1 (al b).2 w e w' := by
  obtain ⟨hx, v, he, hm⟩ := h
  obtain ⟨A, c, rfl, hc, hr⟩ := hm.slice
  exact ⟨hx, A, c, he, hc, hr⟩
end Go.Proofs.Ytfbnckecfapakaa

/-
  A journal in plain lists: what a crash leaves; that the frames behind a crash are the first ones. Conditions: none; no function is named here.
-/
namespace Go.Proofs.Ytfbnckecfapakaa
open Go.RowKit
open Pol (co Sm)

theorem co12_left (a b : List Nat) (i : Nat) (h : i < a.length) : co (a ++ b) i = co a i := by unfold co; rw [List.getElem?_append_left h]
theorem co12_right (a b : List Nat) (i : Nat) (h : a.length ≤ i) : co (a ++ b) i = co b (i - a.length) := by unfold co; rw [List.getElem?_append_right h]
theorem co12_take (l : List Nat) (n i : Nat) (h : i < n) : co (l.take n) i = co l i := by unfold co; rw [List.getElem?_take, if_pos h]
theorem take12_succ (l : List Nat) (n : Nat) (h : n < l.length) : l.take (n + 1) = l.take n ++ [co l n] := by
  rw [List.take_succ_eq_append_getElem h]
  congr 2
  unfold co
  rw [List.getElem?_eq_getElem h]
  rfl
theorem sm12_app {a b : List Nat} (ha : Sm a) (hb : Sm b) : Sm (a ++ b) := Pol.co_lt_of fun z hz => by
  rcases List.mem_append.1 hz with h | h
  · exact ha.mem z h
  · exact hb.mem z h
theorem sm12_take {l : List Nat} (h : Sm l) (n : Nat) : Sm (l.take n) := Pol.co_lt_of fun x hx => h.mem x (List.mem_of_mem_take hx)

/-- The checksum sees the last byte. -/
theorem crc12_last (u : List Nat) (x y : Nat) (hx : x < 256) (hy : y < 256) (hne : x ≠ y) : crcl (u ++ [x]) ≠ crcl (u ++ [y]) := by
  have key : ∀ z, crf 4294967295 (co (u ++ [z])) (u ++ [z]).length = czn 8 (crf 4294967295 (co u) u.length ^^^ z) := fun z => by
    rw [List.length_append, List.length_singleton, crf, crf_congr (g := co u) u.length (fun i hi => co12_left u [z] i hi), co12_right u [z] _ (Nat.le_refl _), Nat.sub_self]
    rfl
  intro e
  unfold crcl at e
  rw [key, key] at e
  have e2 := congrArg (· ^^^ 4294967295) e
  simp only [Nat.xor_assoc, Nat.xor_self, Nat.xor_zero] at e2
  have e3 : czn 8 ((crf 4294967295 (co u) u.length ^^^ x) ^^^ (crf 4294967295 (co u) u.length ^^^ y)) = 0 := by rw [czn_lin, e2, Nat.xor_self]
  have e4 : (crf 4294967295 (co u) u.length ^^^ x) ^^^ (crf 4294967295 (co u) u.length ^^^ y) = x ^^^ y := by
    rw [Nat.xor_assoc, xor_left x, ← Nat.xor_assoc, Nat.xor_self, Nat.zero_xor]
  rw [e4] at e3
  refine czn_ne 8 (Nat.xor_lt_two_pow (n := 32) (by omega) (by omega)) ?_ e3
  intro h0
  apply hne
  have := congrArg (· ^^^ y) h0
  simpa [Nat.xor_assoc] using this

/-- The first n of some bytes, the last one of them torn. -/
def crs (l : List Nat) (n t : Nat) : List Nat := if n = 0 then [] else l.take (n - 1) ++ [co l (n - 1) ^^^ t]
theorem crs_none (l : List Nat) (t : Nat) : crs l 0 t = [] := rfl
theorem crs_some (l : List Nat) (n t : Nat) : crs l (n + 1) t = l.take n ++ [co l n ^^^ t] := by unfold crs; rw [if_neg (by omega), Nat.add_sub_cancel]
theorem crs_len (l : List Nat) (n t : Nat) (h : n ≤ l.length) : (crs l n t).length = n := by
  cases n with
  | zero => rfl
  | succ n => rw [crs_some, List.length_append, List.length_take, List.length_singleton]; omega
theorem crs_zero (l : List Nat) (n : Nat) (h : n ≤ l.length) : crs l n 0 = l.take n := by
  cases n with
  | zero => rw [crs_none, List.take_zero]
  | succ n => rw [crs_some, Nat.xor_zero, take12_succ l n (by omega)]
theorem crs_sm {l : List Nat} (h : Sm l) (n : Nat) {t : Nat} (ht : t < 256) : Sm (crs l n t) := by
  cases n with
  | zero => exact Sm.nil
  | succ n => rw [crs_some]; exact sm12_app (sm12_take h n) (Sm.cons (Nat.xor_lt_two_pow (n := 8) (h n) ht) Sm.nil)
theorem crs_behind (a b : List Nat) (n t : Nat) (h : a.length < n) : crs (a ++ b) n t = a ++ crs b (n - a.length) t := by
  obtain ⟨m, rfl⟩ : ∃ m, n = a.length + (m + 1) := ⟨n - a.length - 1, by omega⟩
  rw [Nat.add_sub_cancel_left, ← Nat.add_assoc, crs_some, crs_some, List.take_length_add_append, co12_right a b _ (by omega), Nat.add_sub_cancel_left, List.append_assoc]
theorem crs_within (a b : List Nat) (n t : Nat) (h : n ≤ a.length) : crs (a ++ b) n t = crs a n t := by
  cases n with
  | zero => rfl
  | succ n => rw [crs_some, crs_some, List.take_append_of_le_length (by omega), co12_left a b n (by omega)]

/-- A frame that is not whole, with its last byte torn, is none; nor is a whole one that is torn. -/
theorem nx_short {b : List Nat} (h : ∀ n, 1 ≤ n → n ≤ 1000 → co b 0 * 256 + co b 1 = n → 2 ≤ b.length → b.length < 6 + n) : ∃ e, nx b = .er e := by
  unfold nx
  by_cases h2 : b.length < 2
  · exact ⟨2, if_pos h2⟩
  · rw [if_neg h2]
    by_cases h3 : co b 0 * 256 + co b 1 < 1 ∨ 1000 < co b 0 * 256 + co b 1
    · exact ⟨14, if_pos h3⟩
    · rw [if_neg h3, if_pos (h _ (by omega) (by omega) rfl (by omega))]
      exact ⟨2, rfl⟩
theorem fr_zero (t : List Nat) : co (fr t) 0 = t.length / 256 := rfl
theorem fr_one (t : List Nat) : co (fr t) 1 = t.length % 256 := rfl
theorem nx_crs_cut (t : List Nat) (n x : Nat) (hn : n < (fr t).length) : ∃ e, nx (crs (fr t) n x) = .er e := by
  have hl := crs_len (fr t) n x (by omega)
  rw [fr_len] at hn
  apply nx_short
  intro m h1 h2 hm h3
  rw [hl] at h3 ⊢
  by_cases h : n = 2
  · omega
  · obtain ⟨j, rfl⟩ : ∃ j, n = (j + 2) + 1 := ⟨n - 3, by omega⟩
    rw [crs_some] at hm
    have h4 : ((fr t).take (j + 2)).length = j + 2 := by rw [List.length_take, fr_len]; omega
    rw [co12_left _ _ 0 (by omega), co12_left _ _ 1 (by omega), co12_take _ _ 0 (by omega), co12_take _ _ 1 (by omega), fr_zero, fr_one, len_two] at hm
    omega
theorem nx_crs_torn (t : List Nat) (x : Nat) (ht : FrOk t) (hs : Sm t) (hx : x < 256) (h0 : x ≠ 0) : ∃ e, nx (crs (fr t) (fr t).length x) = .er e := by
  obtain ⟨u, y, rfl⟩ : ∃ u y, t = u ++ [y] := by
    have hne : t ≠ [] := by rintro rfl; unfold FrOk at ht; simp at ht
    exact ⟨t.dropLast, t.getLast hne, (List.dropLast_concat_getLast hne).symm⟩
  have hsu : Sm u ∧ y < 256 := ⟨Pol.co_lt_of fun z hz => hs.mem z (List.mem_append.2 (.inl hz)), hs.mem y (List.mem_append.2 (.inr (List.mem_singleton.2 rfl)))⟩
  have e6 : (fr (u ++ [y])).take 6 ++ (u ++ [y]) = fr (u ++ [y]) := by
    have h6 : (fr (u ++ [y])).drop 6 = u ++ [y] := by
      unfold fr
      show (cbs (crcl (u ++ [y])) ++ (u ++ [y])).drop 4 = _
      rw [← cbs_len (crcl (u ++ [y])), List.drop_left]
    conv => lhs; rhs; rw [← h6]
    exact List.take_append_drop 6 _
  have e7 : crs (fr (u ++ [y])) (fr (u ++ [y])).length x = (fr (u ++ [y])).take 6 ++ (u ++ [y ^^^ x]) := by
    generalize hp : (fr (u ++ [y])).take 6 = p at e6 ⊢
    rw [← e6]
    have hl : (p ++ (u ++ [y])).length = (p ++ u).length + 1 := by simp only [List.length_append, List.length_singleton]; omega
    rw [hl, ← List.append_assoc, crs_some, List.take_left, co12_right _ _ _ (Nat.le_refl _), Nat.sub_self, List.append_assoc]
    rfl
  have hyx : y ^^^ x ≠ y := fun e => h0 (by
    have := congrArg (y ^^^ ·) e
    simpa [← Nat.xor_assoc] using this)
  rw [e7]
  exact ⟨4, nx_bad (u ++ [y]) (u ++ [y ^^^ x]) ht (by simp) (crc12_last u (y ^^^ x) y (Nat.xor_lt_two_pow (n := 8) hsu.2 hx) hsu.2 hyx)⟩

/-- Frames ahead of whatever stay. -/
theorem al_app (x : List Nat) : ∀ ls : List (List Nat), (∀ t ∈ ls, FrOk t) → al (fl ls ++ x) = (ls ++ (al x).1, (fl ls).length + (al x).2)
  | [], _ => by
    show al x = _
    rw [List.nil_append, show (fl []).length = 0 from rfl, Nat.zero_add]
  | t :: ls, h => by
    rw [fl_cons, List.append_assoc, al_ok (nx_fr t (fl ls ++ x) (h t (List.mem_cons.2 (.inl rfl)))), al_app x ls (fun u hu => h u (List.mem_cons.2 (.inr hu))), List.length_append, fr_len]
    refine Prod.ext rfl ?_
    show _ + (_ + _) = _
    omega
theorem al_whole (ls : List (List Nat)) (h : ∀ t ∈ ls, FrOk t) : al (fl ls) = (ls, (fl ls).length) := by
  have h1 := al_frames [] 2 rfl ls h
  rwa [List.append_nil] at h1
/-- Of torn frames the first ones are left. -/
theorem al_torn (x : Nat) (hx : x < 256) : ∀ (ls : List (List Nat)) (n : Nat), (∀ t ∈ ls, FrOk t ∧ Sm t) → n ≤ (fl ls).length → ∃ m, m ≤ ls.length ∧ al (crs (fl ls) n x) = (ls.take m, (fl (ls.take m)).length)
  | [], n, _, hn => ⟨0, Nat.le_refl _, by
    obtain rfl : n = 0 := by simpa [fl] using hn
    rw [crs_none]
    exact al_er (e := 2) rfl⟩
  | t :: ls, n, h, hn => by
    have ht := h t (List.mem_cons.2 (.inl rfl))
    have none : (∃ e, nx (crs (fl (t :: ls)) n x) = .er e) → ∃ m, m ≤ (t :: ls).length ∧ al (crs (fl (t :: ls)) n x) = ((t :: ls).take m, (fl ((t :: ls).take m)).length) := fun ⟨e, he⟩ => ⟨0, Nat.zero_le _, al_er he⟩
    rw [fl_cons] at none hn ⊢
    rw [List.length_append] at hn
    rcases Nat.lt_or_ge (fr t).length n with hlt | hge
    · obtain ⟨m, hm, e⟩ := al_torn x hx ls (n - (fr t).length) (fun u hu => h u (List.mem_cons.2 (.inr hu))) (by omega)
      refine ⟨m + 1, by simp only [List.length_cons]; omega, ?_⟩
      rw [crs_behind _ _ _ _ hlt, al_ok (nx_fr t _ ht.1), e, List.take_succ_cons, fl_cons, List.length_append, fr_len]
    · rw [crs_within _ _ _ _ hge] at none ⊢
      rcases Nat.lt_or_ge n (fr t).length with hlt | hge2
      · exact none (nx_crs_cut t n x hlt)
      · obtain rfl : n = (fr t).length := by omega
        by_cases h0 : x = 0
        · refine ⟨1, by simp, ?_⟩
          have e1 := al_whole [t] (fun u hu => by rw [List.mem_singleton.1 hu]; exact ht.1)
          have e2 : fl [t] = fr t := by unfold fl; simp
          rw [e2] at e1
          rw [h0, crs_zero _ _ (Nat.le_refl _), List.take_length, e1, List.take_succ_cons, List.take_zero, e2]
        · exact none (nx_crs_torn t x ht.1 ht.2 hx h0)

/-- What is kept of so many loose bytes. -/
def kept (k : Int) (n : Nat) : Nat := if k ≤ 0 then 0 else min k.toNat n
theorem kept_le (k : Int) (n : Nat) : kept k n ≤ n := by
  unfold kept
  split <;> omega
/-- A crash of a disk whose durable bytes are whole frames, and its loose ones too: the first records are left, and all that were durable. -/
theorem al_crash (R : List (List Nat)) (k n x : Nat) (hx : x < 256) (hR : ∀ t ∈ R, FrOk t ∧ Sm t) (hk : k ≤ R.length) (hn : n ≤ (fl (R.drop k)).length) :
    ∃ m, k ≤ m ∧ m ≤ R.length ∧ al (fl (R.take k) ++ crs (fl (R.drop k)) n x) = (R.take m, (fl (R.take m)).length) := by
  obtain ⟨m, hm, e⟩ := al_torn x hx (R.drop k) n (fun t ht => hR t (List.mem_of_mem_drop ht)) hn
  rw [List.length_drop] at hm
  have et : R.take (k + m) = R.take k ++ (R.drop k).take m := by rw [List.take_add]
  refine ⟨k + m, by omega, by omega, ?_⟩
  rw [al_app _ _ (fun t ht => (hR t (List.mem_of_mem_take ht)).1), e, et, fl_app, List.length_append]
/-- The frames of whole bytes are their bytes. -/
theorem al_again (b : List Nat) (hs : Sm b) : al (b.take (al b).2) = ((al b).1, (al b).2) := by
  obtain ⟨h1, h2, h3⟩ := al_flat b hs
  have h4 := al_whole (al b).1 (fun t ht => (h3 t ht).1)
  have h5 : (fl (al b).1).length = (al b).2 := by rw [h1, List.length_take]; omega
  rw [h5, h1] at h4
  exact h4
end Go.Proofs.Ytfbnckecfapakaa

/-
  Worlds that differ in some blocks alone. Conditions: none; no function is named here.
-/
namespace Go.Proofs.Ytfbnckecfapakaa
open Go.RowKit

/-- What was there is as it was, but for the blocks of X. -/
structure Only (X : Nat → Prop) (w w' : World) : Prop where
  os : w'.os = w.os
  tape : w'.tape = w.tape
  output : w'.output = w.output
  size : w.heap.size ≤ w'.heap.size
  block : ∀ k, k < w.heap.size → ¬ X k → w'.heap[k]? = w.heap[k]?
theorem Only.refl (X : Nat → Prop) (w : World) : Only X w w := ⟨rfl, rfl, rfl, Nat.le_refl _, fun _ _ _ => rfl⟩
theorem Only.trans {X : Nat → Prop} {a b c : World} (h : Only X a b) (k : Only X b c) : Only X a c :=
  ⟨k.os.trans h.os, k.tape.trans h.tape, k.output.trans h.output, Nat.le_trans h.size k.size, fun i hi hx => (k.block i (Nat.lt_of_lt_of_le hi h.size) hx).trans (h.block i hi hx)⟩
theorem Only.of_grown {X : Nat → Prop} {w w' : World} {row : Option Nat} (h : w.grownBy w' row) (hr : ∀ k, row = some k → X k) : Only X w w' :=
  ⟨h.os, h.tape, h.output, h.size, fun k hk hx => h.block k hk (fun e => hx (hr k e.symm))⟩
theorem Only.of_ext {X : Nat → Prop} {w w' : World} (h : Ext w w') : Only X w w' := ⟨h.below.os, h.below.tape, h.below.output, h.below.size, fun k hk _ => h.below.block k hk⟩
theorem Only.drewN {X : Nat → Prop} {a w : World} (h : Only X a w) (n : Nat) : Only X a (w.drewN n) := ⟨h.os, h.tape, h.output, h.size, h.block⟩
theorem Only.mono {X Y : Nat → Prop} {w w' : World} (h : Only X w w') (hxy : ∀ k, k < w.heap.size → X k → Y k) : Only Y w w' := ⟨h.os, h.tape, h.output, h.size, fun k hk hy => h.block k hk (fun hx => hy (hxy k hk hx))⟩
theorem Only.ext {X : Nat → Prop} {a w w' : World} (h : Only X w w') (hx : Ext a w) (hX : ∀ k, X k → a.heap.size ≤ k) : Ext a w' :=
  ⟨hx.below.trans ⟨h.os, h.tape, h.output, h.size, fun k hk => h.block k (Nat.lt_of_lt_of_le hk hx.size) (fun hk' => by have := hX k hk'; omega)⟩⟩
theorem Only.cell {X : Nat → Prop} {w w' : World} (h : Only X w w') {b o : Nat} {v : Value} (hc : w.cell? ⟨b, o, none⟩ = some v) (hx : ¬ X b) : w'.cell? ⟨b, o, none⟩ = some v :=
  (World.cell?_of_block (a := ⟨b, o, none⟩) (h.block b (block_lt_of_cell hc) hx)).trans hc
theorem Only.frozen {X : Nat → Prop} {w w' : World} (h : Only X w w') {b o : Nat} (hb : b < w.heap.size) (hx : ¬ X b) : w'.frozen? ⟨b, o, none⟩ = w.frozen? ⟨b, o, none⟩ :=
  World.frozen?_of_block (a := ⟨b, o, none⟩) (h.block b hb hx)
end Go.Proofs.Ytfbnckecfapakaa

/-
  Cells and blocks stay where worlds only grow. Conditions: none; no function is named here.
-/
namespace Go.Proofs.Ytfbnckecfapakaa
open Go.RowKit

theorem Ext.at {w w' : World} (h : Ext w w') {b o : Nat} {v : Value} (hc : w.cell? ⟨b, o, none⟩ = some v) : w'.cell? ⟨b, o, none⟩ = some v :=
  (h.below.cell (p := ⟨b, o, none⟩) (block_lt_of_cell hc)).trans hc
theorem Ext.row {w w' : World} (h : Ext w w') {b : Nat} {x : Obj} (hc : w.heap[b]? = some x) : w'.heap[b]? = some x :=
  (h.below.block b (Array.getElem?_eq_some_iff.1 hc).1).trans hc
theorem row_lt {w : World} {b : Nat} {x : Obj} (hc : w.heap[b]? = some x) : b < w.heap.size := (Array.getElem?_eq_some_iff.1 hc).1
theorem Only.row {X : Nat → Prop} {w w' : World} (h : Only X w w') {b : Nat} {x : Obj} (hc : w.heap[b]? = some x) (hx : ¬ X b) : w'.heap[b]? = some x := (h.block b (row_lt hc) hx).trans hc
theorem grown_block (w : World) (g : Nat) (V : Array Value) : w.grownBy (w.setRow g V) (some g) :=
  ⟨rfl, rfl, rfl, by simp [World.setRow], fun k _ hne => setRow_other w g k V (fun e => hne (by rw [e]))⟩
end Go.Proofs.Ytfbnckecfapakaa

/-
  What layer 12's own functions are to do, as one statement, over a predicate that the code's proof chooses: what a log is in memory. Conditions: no more than 2^16 bytes.
-/
namespace Go.Proofs.Ytfbnckecfapakaa
open Go.RowKit
open Pol (co Sm)

/-- The blocks of X, and those that were laid since. -/
def Nw (X : Nat → Prop) (w w' : World) (b : Nat) : Prop := X b ∨ (w.heap.size ≤ b ∧ b < w'.heap.size)
/-- A disk whose bytes may be written. -/
def DiskO (F L : List Nat) (w : World) (e : Ending) (w' : World) : Prop :=
  Ext w w' ∧ ∃ f l, e = .returned (.agg #[f, l]) ∧ OwnW w.heap.size f w' F ∧ OwnW w.heap.size l w' L
/-- The records, each in bytes that may be written, none of which lies in the list's own block. -/
def RecS (R : List (List Nat)) (w : World) (e : Ending) (w' : World) : Prop :=
  Ext w w' ∧ ∃ V c, e = .returned (.slice V R.length c) ∧ R.length ≤ c ∧
    ∀ i, i < R.length → ∃ g o v, V = some ⟨g, o, none⟩ ∧ w.heap.size ≤ g ∧ w'.cell? ⟨g, o + i, none⟩ = some v ∧ OwnW w.heap.size v w' (ro R i) ∧ (∀ b' o' n' c', v = .slice (some ⟨b', o', none⟩) n' c' → b' ≠ g)
theorem RecS.reads {R : List (List Nat)} {w w' : World} {V : Option Addr}
    (h : ∀ i, i < R.length → ∃ g o v, V = some ⟨g, o, none⟩ ∧ w.heap.size ≤ g ∧ w'.cell? ⟨g, o + i, none⟩ = some v ∧ OwnW w.heap.size v w' (ro R i) ∧ (∀ b' o' n' c', v = .slice (some ⟨b', o', none⟩) n' c' → b' ≠ g)) : RRd w' V R := fun i hi => by
  obtain ⟨g, o, v, hR, _, hc, ⟨B, c, rfl, hlc, hr, _⟩, _⟩ := h i hi
  exact ⟨g, o, B, c, hR, hc, hlc, hr⟩
/-- A log's records: frames, the first k of which are durable. -/
structure Lok (R : List (List Nat)) (k : Nat) : Prop where
  ok : ∀ t ∈ R, FrOk t ∧ Sm t
  le : k ≤ R.length
abbrev LogP := (Nat → Prop) → Nat → World → List (List Nat) → Nat → Prop
/-- Append and Compact: R' with k' records is what comes of it. -/
def Puts (I : LogP) (X : Nat → Prop) (lb : Nat) (R : List (List Nat)) (k : Nat) (t : List Nat) (R' : List (List Nat)) (k' : Nat) (w : World) (e : Ending) (w' : World) : Prop :=
  Only X w w' ∧ ((FrOk t ∧ e = .returned (.int .i64 0) ∧ I (Nw X w w') lb w' R' k') ∨ (¬ FrOk t ∧ e = .returned (.int .i64 1) ∧ I (Nw X w w') lb w' R k))

structure JournalSaid (I : LogP) : Prop where
  keep : ∀ {X : Nat → Prop} {lb : Nat} {w w' : World} {R : List (List Nat)} {k : Nat}, I X lb w R k → (∀ b, X b → w'.heap[b]? = w.heap[b]?) → w.heap.size ≤ w'.heap.size → I X lb w' R k
  mono : ∀ {X Y : Nat → Prop} {lb : Nat} {w : World} {R : List (List Nat)} {k : Nat}, I X lb w R k → (∀ b, X b → Y b) → I Y lb w R k
  lok : ∀ {X : Nat → Prop} {lb : Nat} {w : World} {R : List (List Nat)} {k : Nat}, I X lb w R k → Lok R k
  write : ∀ (F L b : List Nat) (A B D : Option Addr) (ca cb cd : Nat) (w : World), Rd w A F → Rd w B L → Rd w D b → F.length ≤ 65536 → L.length ≤ 65536 → b.length ≤ 65536 →
    Calls Try.prog 25 #[.agg #[.slice A F.length ca, .slice B L.length cb], .slice D b.length cd] w (DiskO F (L ++ b) w)
  dsync : ∀ (F L : List Nat) (A B : Option Addr) (ca cb : Nat) (w : World), Rd w A F → Rd w B L → F.length ≤ 65536 → L.length ≤ 65536 →
    Calls Try.prog 28 #[.agg #[.slice A F.length ca, .slice B L.length cb]] w (DiskO (F ++ L) [] w)
  crash : ∀ (F L : List Nat) (A B : Option Addr) (ca cb : Nat) (k : Int) (x : Nat) (w : World), Rd w A F → Rd w B L → F.length ≤ 65536 → L.length ≤ 65536 → L.length ≤ cb → x < 256 →
    Calls Try.prog 23 #[.agg #[.slice A F.length ca, .slice B L.length cb], .int .i64 k, .int .u8 (x : Int)] w (DiskO (F ++ crs L (kept k L.length) x) [] w)
  opn : ∀ (F L : List Nat) (A B : Option Addr) (ca cb : Nat) (w : World), Rd w A F → Rd w B L → F.length + L.length ≤ 65536 →
    Calls Try.prog 11 #[.agg #[.slice A F.length ca, .slice B L.length cb]] w (fun e w' => Ext w w' ∧ ∃ lb, e = .returned (.pointer (some ⟨lb, 0, none⟩)) ∧ I (Nw (fun _ => False) w w') lb w' (al (F ++ L)).1 (al (F ++ L)).1.length)
  append : ∀ (X : Nat → Prop) (lb : Nat) (R : List (List Nat)) (k : Nat) (t : List Nat) (A : Option Addr) (c : Nat) (w : World), I X lb w R k → Rd w A t → t.length ≤ c → (fl R).length ≤ 65536 →
    Calls Try.prog 17 #[.pointer (some ⟨lb, 0, none⟩), .slice A t.length c] w (Puts I X lb R k t (R ++ [t]) k w)
  sync : ∀ (X : Nat → Prop) (lb : Nat) (R : List (List Nat)) (k : Nat) (w : World), I X lb w R k → (fl R).length ≤ 65536 →
    Calls Try.prog 19 #[.pointer (some ⟨lb, 0, none⟩)] w (fun e w' => e = .returned (.tuple #[]) ∧ Only X w w' ∧ I (Nw X w w') lb w' R R.length)
  compact : ∀ (X : Nat → Prop) (lb : Nat) (R : List (List Nat)) (k : Nat) (t : List Nat) (A : Option Addr) (c : Nat) (w : World), I X lb w R k → Rd w A t → t.length ≤ c →
    Calls Try.prog 21 #[.pointer (some ⟨lb, 0, none⟩), .slice A t.length c] w (Puts I X lb R k t [t] 1 w)
  records : ∀ (X : Nat → Prop) (lb : Nat) (R : List (List Nat)) (k : Nat) (w : World), I X lb w R k → (fl R).length ≤ 65536 →
    Calls Try.prog 16 #[.pointer (some ⟨lb, 0, none⟩)] w (RecS R w)
  fast : ∀ (X : Nat → Prop) (lb : Nat) (R : List (List Nat)) (k : Nat) (w : World), I X lb w R k →
    Calls Try.prog 26 #[.pointer (some ⟨lb, 0, none⟩)] w (Tells (.int .i64 (k : Int)) w)
  disk : ∀ (X : Nat → Prop) (lb : Nat) (R : List (List Nat)) (k : Nat) (w : World), I X lb w R k → (fl R).length ≤ 65536 →
    Calls Try.prog 14 #[.pointer (some ⟨lb, 0, none⟩)] w (DiskO (fl (R.take k)) (fl (R.drop k)) w)
  nappend : ∀ (a : Value) (w : World), Calls Try.prog 17 #[.pointer none, a] w (Tells (.int .i64 1) w)
  ncompact : ∀ (a : Value) (w : World), Calls Try.prog 21 #[.pointer none, a] w (Tells (.int .i64 1) w)
  nsync : ∀ (w : World), Calls Try.prog 19 #[.pointer none] w (fun e w' => e = .returned (.tuple #[]) ∧ Ext w w')
  nrecords : ∀ (w : World), Calls Try.prog 16 #[.pointer none] w (Tells (.slice none 0 0) w)
  nfast : ∀ (w : World), Calls Try.prog 26 #[.pointer none] w (Tells (.int .i64 0) w)
  ndisk : ∀ (w : World), Calls Try.prog 14 #[.pointer none] w (Tells (.agg #[.slice none 0 0, .slice none 0 0]) w)
end Go.Proofs.Ytfbnckecfapakaa

/-
  The document's comparison of lists, of two that are alike. Conditions: no more than 2^20 rows of 2^20 bytes.
-/
namespace Go.Proofs.Ytfbnckecfapakaa
open Go.RowKit
open Pol (co Sm)

set_option maxHeartbeats 800000 in
theorem ref9_lists (rows : List (List Nat)) (A B : Option Addr) (ca cb : Nat) (w : World) (ha : RRd w A rows) (hb : RRd w B rows) (hl : rows.length ≤ 1048576) (hls : ∀ i, i < rows.length → (ro rows i).length ≤ 1048576) :
    Calls Try.prog 15 #[.slice A rows.length ca, .slice B rows.length cb] w (Hands (.bool true) w) := by
  have HA := Lib.hid ha
  have HB := Lib.hid hb
  obtain ⟨n, hn⟩ : ∃ n, rows.length = n := ⟨_, rfl⟩
  have HN := Lib.hid hn
  rw [hn] at hl hls ⊢
  have HLS := Lib.hid hls
  clear ha hb hn hls
  go_enter Try.func15, Try.ntmps15
  go_wp2
  go_loopg [14] n (fun g s wx => ∃ i m : Nat, i + g = n ∧ s = .int .i64 (i : Int) ∧ wx = w.drewN m)
  case atStart => exact ⟨0, 0, by omega, rfl, rfl⟩
  case round =>
    obtain ⟨i, m, hig, rfl, rfl⟩ := hrel
    cases gk with
    | zero =>
      obtain rfl : i = n := by omega
      clear hig
      go_wp2
      go_ret
      exact ⟨rfl, m, rfl⟩
    | succ g =>
      have hi : i < n := by omega
      have hiI : (i : Int) < (n : Int) := by omega
      obtain ⟨b1, o1, R1, c1, rfl, hc1, hl1, hr1⟩ := HA.out i (by rw [HN.out]; exact hi)
      obtain ⟨b2, o2, R2, c2, rfl, hc2, hl2, hr2⟩ := HB.out i (by rw [HN.out]; exact hi)
      obtain ⟨t, ht⟩ : ∃ t, ro rows i = t := ⟨_, rfl⟩
      rw [ht] at hc1 hc2 hr1 hr2 hl1 hl2
      obtain ⟨k, hk⟩ : ∃ k, t.length = k := ⟨_, rfl⟩
      rw [hk] at hc1 hc2 hl1 hl2
      have HR1 := Lib.hid hr1
      have HR2 := Lib.hid hr2
      have HK := Lib.hid hk
      have HIG := Lib.hid hig
      have hkl : k ≤ 1048576 := by rw [← hk, ← ht]; exact HLS.out i hi
      clear hr1 hr2 hk ht hig
      go_wp2
      go_quiet (fail)
      go_wp2
      go_loopg [33] k (fun g s wx => ∃ j m : Nat, j + g = k ∧ s = .int .i64 (j : Int) ∧ wx = w.drewN m)
      case atStart => exact ⟨0, _, by omega, rfl, rfl⟩
      case round =>
        obtain ⟨j, m2, hjg, rfl, rfl⟩ := hrel
        cases gk with
        | zero =>
          obtain rfl : j = k := by omega
          clear hjg
          go_wp2
          go_roundg g
          case measure => omega
          case rel => exact ⟨i + 1, m2, by have := HIG.out; omega, by go_num, rfl⟩
        | succ g2 =>
          have hj : j < k := by omega
          have hjI : (j : Int) < (k : Int) := by omega
          obtain ⟨b3, o3, rfl, hc3⟩ := HR1.out.2 j (by rw [HK.out]; exact hj)
          obtain ⟨b4, o4, rfl, hc4⟩ := HR2.out.2 j (by rw [HK.out]; exact hj)
          generalize co t j = y at *
          have d6 : ((y : Int) != (y : Int)) = false := by simp
          go_wp2
          go_quiet (fail)
          go_wp2
          go_roundg g2
          case measure => omega
          case rel => exact ⟨j + 1, _, by omega, by go_num, rfl⟩
end Go.Proofs.Ytfbnckecfapakaa

/-
  Two slices that read as one list are the same to the statements' own comparison. Conditions: none.
-/
namespace Go.Proofs.Ytfbnckecfapakaa
open Go.RowKit
open Pol (co Sm)

set_option maxHeartbeats 400000 in
set_option maxRecDepth 100000 in
theorem same_true (l : List Nat) (A B : Option Addr) (ca cb : Nat) (w : World) (ha : Rd w A l) (hb : Rd w B l) (hl : l.length ≤ 1048576) :
    Calls Try.prog 30 #[.slice A l.length ca, .slice B l.length cb] w (Hands (.bool true) w) := by
  generalize hn : l.length = n at *
  have HA := Lib.hid ha
  have HB := Lib.hid hb
  have HN := Lib.hid hn
  clear ha hb hn
  go_enter Try.func30, Try.ntmps30
  go_wp2
  go_loopg [13] n (fun g s wx => ∃ k m : Nat, k + g = n ∧ s = .int .i64 (k : Int) ∧ wx = w.drewN m)
  case atStart => exact ⟨0, 0, by omega, rfl, rfl⟩
  case round =>
    obtain ⟨k, m, hkg, rfl, rfl⟩ := hrel
    cases gk with
    | zero =>
      obtain rfl : k = n := by omega
      clear hkg
      go_wp2
      go_ret
      exact ⟨rfl, m, rfl⟩
    | succ g =>
      have hk : k < n := by omega
      obtain ⟨b, o, rfl, hc⟩ := HA.out.2 k (by rw [HN.out]; exact hk)
      obtain ⟨b', o', rfl, hc'⟩ := HB.out.2 k (by rw [HN.out]; exact hk)
      have hkI : (k : Int) < (n : Int) := by omega
      go_wp2
      go_quiet (fail)
      go_wp2
      go_roundg g
      case measure => omega
      case rel => exact ⟨k + 1, _, by omega, by go_num, rfl⟩
theorem same_tells (l : List Nat) (A B : Option Addr) (ca cb : Nat) (w : World) (ha : Rd w A l) (hb : Rd w B l) (hl : l.length ≤ 1048576) :
    Calls Try.prog 30 #[.slice A l.length ca, .slice B l.length cb] w (Tells (.bool true) w) := (same_true l A B ca cb w ha hb hl).mono fun _ _ h => h.tells
end Go.Proofs.Ytfbnckecfapakaa

/-
  Bytes of a call's own that may be written; one frame. Conditions: none; no function is named here.
-/
namespace Go.Proofs.Ytfbnckecfapakaa
open Go.RowKit
open Pol (co Sm)

theorem nx_one (b : List Nat) (h : FrOk b) : nx (fr b) = .ok b [] := by
  have := nx_fr b [] h
  rwa [List.append_nil] at this
theorem al_one (b : List Nat) (h : FrOk b) : al (fr b) = ([b], 6 + b.length) := by
  rw [al_ok (nx_one b h), al_er (e := 2) (by unfold nx; simp)]
  rfl
theorem grown_set9 (w : World) (g o : Nat) (v : Value) : w.grownBy (w.setCell ⟨g, o, none⟩ v) (some g) := grown_set w g o v
/-- n cells from there on may be written. -/
def Wr (w : World) (g o n : Nat) : Prop := ∀ i, i < n → (∃ v, w.cell? ⟨g, o + i, none⟩ = some v) ∧ w.frozen? ⟨g, o + i, none⟩ = false
theorem Wr.set {w : World} {g o n : Nat} (h : Wr w g o n) (a : Addr) (v : Value) : Wr (w.setCell a v) g o n := fun i hi => by
  obtain ⟨⟨u, hu⟩, hf⟩ := h i hi
  refine ⟨?_, by rw [World.frozen?_setCell]; exact hf⟩
  by_cases e : a = ⟨g, o + i, none⟩
  · subst e; exact ⟨v, World.cell?_setCell_same' _ _ _ (by rw [hu]; rfl)⟩
  · exact ⟨u, (World.cell?_setCell_other _ _ _ _ e).trans hu⟩
theorem Wr.only {X : Nat → Prop} {w w' : World} {g o n : Nat} (h : Wr w g o n) (ho : Only X w w') (hx : ¬ X g) : Wr w' g o n := fun i hi => by
  obtain ⟨⟨u, hu⟩, hf⟩ := h i hi
  exact ⟨⟨u, ho.cell hu hx⟩, (ho.frozen (block_lt_of_cell hu) hx).trans hf⟩
theorem Wr.ext {w w' : World} {g o n : Nat} (h : Wr w g o n) (hx : Ext w w') : Wr w' g o n := h.only (X := fun _ => False) (Only.of_ext hx) (fun h => h)
theorem OwnW.wr {base : Nat} {v : Value} {w : World} {t : List Nat} (h : OwnW base v w t) (ht : 0 < t.length) : ∃ g o c, v = .slice (some ⟨g, o, none⟩) t.length c ∧ t.length ≤ c ∧ base ≤ g ∧ g < w.heap.size ∧ Wr w g o t.length := by
  obtain ⟨B, c, rfl, hc, hr, hb⟩ := h
  obtain ⟨g, o, rfl, hcell⟩ := hr.addr ht
  obtain ⟨h1, h2⟩ := hb g o rfl ht
  exact ⟨g, o, c, rfl, hc, h1, block_lt_of_cell (hcell 0 ht), fun i hi => ⟨⟨_, hcell i hi⟩, h2 i hi⟩⟩
end Go.Proofs.Ytfbnckecfapakaa

/-
  Layer 12's functions as the laws' walks use them: logs with the blocks that are theirs; disks whose slices have names. Conditions: no more than 2^16 bytes.
-/
namespace Go.Proofs.Ytfbnckecfapakaa
open Go.RowKit
open Pol (co Sm)

/-- A slice of bytes of a call's own. -/
structure Sd (base : Nat) (w : World) (A : Option Addr) (n c : Nat) (l : List Nat) : Prop where
  len : l.length = n
  cap : n ≤ c
  rd : Rd w A l
  own : OwnW base (.slice A n c) w l
theorem OwnW.sd {base : Nat} {v : Value} {w : World} {l : List Nat} (h : OwnW base v w l) : ∃ A n c, v = .slice A n c ∧ Sd base w A n c l := by
  have h' := h
  obtain ⟨B, c, rfl, hc, hr, _⟩ := h'
  exact ⟨B, _, c, rfl, rfl, hc, hr, h⟩
theorem OwnW.ext {base : Nat} {v : Value} {w w' : World} {l : List Nat} (h : OwnW base v w l) (hx : Ext w w') : OwnW base v w' l := by
  obtain ⟨B, c, rfl, hc, hr, hb⟩ := h
  refine ⟨B, c, rfl, hc, hr.ext hx, fun b o e h0 => ?_⟩
  obtain ⟨h1, h2⟩ := hb b o e h0
  obtain ⟨b', o', e', hcell⟩ := hr.addr h0
  rw [e] at e'
  injection e' with e'
  injection e' with e1 e2
  subst e1; subst e2
  refine ⟨h1, fun i hi => ?_⟩
  exact (World.frozen?_of_block (a := ⟨b, o + i, none⟩) (hx.below.block b (block_lt_of_cell (hcell i hi)))).trans (h2 i hi)
theorem OwnW.down12 {base base' : Nat} {v : Value} {w : World} {t : List Nat} (h : OwnW base v w t) (hb : base' ≤ base) : OwnW base' v w t := by
  obtain ⟨B, c, e, hc, hr, hk⟩ := h
  exact ⟨B, c, e, hc, hr, fun b o e2 h0 => ⟨Nat.le_trans hb (hk b o e2 h0).1, (hk b o e2 h0).2⟩⟩
theorem Sd.ext {base : Nat} {w w' : World} {A : Option Addr} {n c : Nat} {l : List Nat} (h : Sd base w A n c l) (hx : Ext w w') : Sd base w' A n c l := ⟨h.len, h.cap, h.rd.ext hx, h.own.ext hx⟩
theorem Sd.down {base base' : Nat} {w : World} {A : Option Addr} {n c : Nat} {l : List Nat} (h : Sd base w A n c l) (hb : base' ≤ base) : Sd base' w A n c l := ⟨h.len, h.cap, h.rd, h.own.down12 hb⟩
def DiskP (F L : List Nat) (w : World) (e : Ending) (w' : World) : Prop :=
  Ext w w' ∧ ∃ A nf ca B nl cb, e = .returned (.agg #[.slice A nf ca, .slice B nl cb]) ∧ Sd w.heap.size w' A nf ca F ∧ Sd w.heap.size w' B nl cb L
theorem DiskO.toP {F L : List Nat} {w : World} {e : Ending} {w' : World} (h : DiskO F L w e w') : DiskP F L w e w' := by
  obtain ⟨hx, f, l, rfl, hf, hl⟩ := h
  obtain ⟨A, nf, ca, rfl, h1⟩ := hf.sd
  obtain ⟨B, nl, cb, rfl, h2⟩ := hl.sd
  exact ⟨hx, A, nf, ca, B, nl, cb, rfl, h1, h2⟩
/-- The rows that Records tells. -/
def RecP (R : List (List Nat)) (w : World) (e : Ending) (w' : World) : Prop :=
  Ext w w' ∧ ∃ V n c, e = .returned (.slice V n c) ∧ R.length = n ∧ n ≤ c ∧ RRd w' V R ∧
    ∀ i, i < R.length → ∃ g o v, V = some ⟨g, o, none⟩ ∧ w.heap.size ≤ g ∧ w'.cell? ⟨g, o + i, none⟩ = some v ∧ OwnW w.heap.size v w' (ro R i) ∧ (∀ b' o' n' c', v = .slice (some ⟨b', o', none⟩) n' c' → b' ≠ g)
theorem RecS.toP {R : List (List Nat)} {w : World} {e : Ending} {w' : World} (h : RecS R w e w') : RecP R w e w' := by
  obtain ⟨hx, V, c, he, hc, hr⟩ := h
  exact ⟨hx, V, _, c, he, rfl, hc, RecS.reads hr, hr⟩
/-- A log, whose blocks are those of X, which lie between base and the world's end. -/
def Lg (I : LogP) (X : Nat → Prop) (lb : Nat) (w : World) (R : List (List Nat)) (k base : Nat) : Prop := I X lb w R k ∧ ∀ b, X b → base ≤ b ∧ b < w.heap.size

section
variable {I : LogP} (C : JournalSaid I)
include C
theorem Lg.only {X Y : Nat → Prop} {lb : Nat} {w w' : World} {R : List (List Nat)} {k base : Nat} (h : Lg I X lb w R k base) (ho : Only Y w w') (hxy : ∀ b, X b → ¬ Y b) : Lg I X lb w' R k base :=
  ⟨C.keep h.1 (fun b hb => ho.block b (h.2 b hb).2 (hxy b hb)) ho.size, fun b hb => ⟨(h.2 b hb).1, Nat.lt_of_lt_of_le (h.2 b hb).2 ho.size⟩⟩
theorem Lg.ext {X : Nat → Prop} {lb : Nat} {w w' : World} {R : List (List Nat)} {k base : Nat} (h : Lg I X lb w R k base) (hx : Ext w w') : Lg I X lb w' R k base := h.only C (Y := fun _ => False) (Only.of_ext hx) (fun _ _ h => h)
theorem Lg.lok {X : Nat → Prop} {lb : Nat} {w : World} {R : List (List Nat)} {k base : Nat} (h : Lg I X lb w R k base) : Lok R k := C.lok h.1
omit C in
theorem Lg.new {X : Nat → Prop} {lb : Nat} {w w' : World} {R R' : List (List Nat)} {k k' base : Nat} (h : Lg I X lb w R k base) (ho : Only X w w') (hb : base ≤ w.heap.size) (hi : I (Nw X w w') lb w' R' k') : Lg I (Nw X w w') lb w' R' k' base :=
  ⟨hi, fun b hb' => by
    rcases hb' with e | ⟨h1, h2⟩
    · exact ⟨(h.2 b e).1, Nat.lt_of_lt_of_le (h.2 b e).2 ho.size⟩
    · exact ⟨Nat.le_trans hb h1, h2⟩⟩
theorem lg_open {F L : List Nat} {A B : Option Addr} {nf ca nl cb : Nat} (w : World) (hf : F.length = nf) (hl : L.length = nl) (rf : Rd w A F) (rl : Rd w B L) (hs : nf + nl ≤ 65536) :
    Calls Try.prog 11 #[.agg #[.slice A nf ca, .slice B nl cb]] w (fun e w' => Ext w w' ∧ ∃ lb X, e = .returned (.pointer (some ⟨lb, 0, none⟩)) ∧ Lg I X lb w' (al (F ++ L)).1 (al (F ++ L)).1.length w.heap.size ∧ ∀ b, X b → w.heap.size ≤ b) := by
  subst hf; subst hl
  refine (C.opn F L A B ca cb w rf rl hs).mono ?_
  rintro e w' ⟨hx, lb, he, hi⟩
  refine ⟨hx, lb, _, he, ⟨hi, fun b hb => ?_⟩, fun b hb => ?_⟩
  · rcases hb with h | h
    · exact absurd h id
    · exact h
  · rcases hb with h | h
    · exact absurd h id
    · exact h.1
/-- Append, whatever comes. -/
theorem lg_append {X : Nat → Prop} {lb : Nat} {R : List (List Nat)} {k base : Nat} {t : List Nat} {A : Option Addr} {n c : Nat} {w : World} (h : Lg I X lb w R k base) (ht : t.length = n) (hr : Rd w A t) (hc : n ≤ c) (hs : (fl R).length ≤ 65536) (hb : base ≤ w.heap.size) :
    Calls Try.prog 17 #[.pointer (some ⟨lb, 0, none⟩), .slice A n c] w (fun e w' => Only X w w' ∧ ((FrOk t ∧ e = .returned (.int .i64 0) ∧ Lg I (Nw X w w') lb w' (R ++ [t]) k base) ∨ (¬ FrOk t ∧ e = .returned (.int .i64 1) ∧ Lg I (Nw X w w') lb w' R k base))) := by
  subst ht
  refine (C.append X lb R k t A c w h.1 hr hc hs).mono ?_
  rintro e w' ⟨ho, hor⟩
  refine ⟨ho, hor.imp (fun ⟨h1, h2, h3⟩ => ⟨h1, h2, h.new ho hb h3⟩) (fun ⟨h1, h2, h3⟩ => ⟨h1, h2, h.new ho hb h3⟩)⟩
theorem lg_append_ok {X : Nat → Prop} {lb : Nat} {R : List (List Nat)} {k base : Nat} {t : List Nat} {A : Option Addr} {n c : Nat} {w : World} (h : Lg I X lb w R k base) (hf : FrOk t) (ht : t.length = n) (hr : Rd w A t) (hc : n ≤ c) (hs : (fl R).length ≤ 65536) (hb : base ≤ w.heap.size) :
    Calls Try.prog 17 #[.pointer (some ⟨lb, 0, none⟩), .slice A n c] w (fun e w' => Only X w w' ∧ e = .returned (.int .i64 0) ∧ Lg I (Nw X w w') lb w' (R ++ [t]) k base) := by
  refine (lg_append C h ht hr hc hs hb).mono ?_
  rintro e w' ⟨ho, (⟨_, h1, h2⟩ | ⟨h1, _⟩)⟩
  · exact ⟨ho, h1, h2⟩
  · exact absurd hf h1
theorem lg_compact {X : Nat → Prop} {lb : Nat} {R : List (List Nat)} {k base : Nat} {t : List Nat} {A : Option Addr} {n c : Nat} {w : World} (h : Lg I X lb w R k base) (ht : t.length = n) (hr : Rd w A t) (hc : n ≤ c) (hb : base ≤ w.heap.size) :
    Calls Try.prog 21 #[.pointer (some ⟨lb, 0, none⟩), .slice A n c] w (fun e w' => Only X w w' ∧ ((FrOk t ∧ e = .returned (.int .i64 0) ∧ Lg I (Nw X w w') lb w' [t] 1 base) ∨ (¬ FrOk t ∧ e = .returned (.int .i64 1) ∧ Lg I (Nw X w w') lb w' R k base))) := by
  subst ht
  refine (C.compact X lb R k t A c w h.1 hr hc).mono ?_
  rintro e w' ⟨ho, hor⟩
  exact ⟨ho, hor.imp (fun ⟨h1, h2, h3⟩ => ⟨h1, h2, h.new ho hb h3⟩) (fun ⟨h1, h2, h3⟩ => ⟨h1, h2, h.new ho hb h3⟩)⟩
theorem lg_sync {X : Nat → Prop} {lb : Nat} {R : List (List Nat)} {k base : Nat} {w : World} (h : Lg I X lb w R k base) (hs : (fl R).length ≤ 65536) (hb : base ≤ w.heap.size) :
    Calls Try.prog 19 #[.pointer (some ⟨lb, 0, none⟩)] w (fun e w' => e = .returned (.tuple #[]) ∧ Only X w w' ∧ Lg I (Nw X w w') lb w' R R.length base) := by
  refine (C.sync X lb R k w h.1 hs).mono ?_
  rintro e w' ⟨he, ho, hi⟩
  exact ⟨he, ho, h.new ho hb hi⟩
theorem lg_records {X : Nat → Prop} {lb : Nat} {R : List (List Nat)} {k base : Nat} {w : World} (h : Lg I X lb w R k base) (hs : (fl R).length ≤ 65536) :
    Calls Try.prog 16 #[.pointer (some ⟨lb, 0, none⟩)] w (RecP R w) := (C.records X lb R k w h.1 hs).mono fun _ _ h => h.toP
theorem lg_fast {X : Nat → Prop} {lb : Nat} {R : List (List Nat)} {k base : Nat} {w : World} (h : Lg I X lb w R k base) :
    Calls Try.prog 26 #[.pointer (some ⟨lb, 0, none⟩)] w (Tells (.int .i64 (k : Int)) w) := C.fast X lb R k w h.1
theorem lg_disk {X : Nat → Prop} {lb : Nat} {R : List (List Nat)} {k base : Nat} {w : World} (h : Lg I X lb w R k base) (hs : (fl R).length ≤ 65536) :
    Calls Try.prog 14 #[.pointer (some ⟨lb, 0, none⟩)] w (DiskP (fl (R.take k)) (fl (R.drop k)) w) := (C.disk X lb R k w h.1 hs).mono fun _ _ h => h.toP
theorem dk_crash {F L : List Nat} {A B : Option Addr} {nf ca nl cb : Nat} (k : Int) (x : Nat) (w : World) (hf : F.length = nf) (hl : L.length = nl) (rf : Rd w A F) (rl : Rd w B L) (h1 : nf ≤ 65536) (h2 : nl ≤ 65536) (h3 : nl ≤ cb) (hx : x < 256) :
    Calls Try.prog 23 #[.agg #[.slice A nf ca, .slice B nl cb], .int .i64 k, .int .u8 (x : Int)] w (DiskP (F ++ crs L (kept k nl) x) [] w) := by
  subst hf; subst hl
  exact (C.crash F L A B ca cb k x w rf rl h1 h2 h3 hx).mono fun _ _ h => h.toP
theorem dk_sync {F L : List Nat} {A B : Option Addr} {nf ca nl cb : Nat} (w : World) (hf : F.length = nf) (hl : L.length = nl) (rf : Rd w A F) (rl : Rd w B L) (h1 : nf ≤ 65536) (h2 : nl ≤ 65536) :
    Calls Try.prog 28 #[.agg #[.slice A nf ca, .slice B nl cb]] w (DiskP (F ++ L) [] w) := by
  subst hf; subst hl
  exact (C.dsync F L A B ca cb w rf rl h1 h2).mono fun _ _ h => h.toP
theorem dk_write {F L b : List Nat} {A B D : Option Addr} {nf ca nl cb nb cd : Nat} (w : World) (hf : F.length = nf) (hl : L.length = nl) (hb : b.length = nb) (rf : Rd w A F) (rl : Rd w B L) (rb : Rd w D b) (h1 : nf ≤ 65536) (h2 : nl ≤ 65536) (h3 : nb ≤ 65536) :
    Calls Try.prog 25 #[.agg #[.slice A nf ca, .slice B nl cb], .slice D nb cd] w (DiskP F (L ++ b) w) := by
  subst hf; subst hl; subst hb
  exact (C.write F L b A B D ca cb cd w rf rl rb h1 h2 h3).mono fun _ _ h => h.toP
end
theorem lists_n {rows : List (List Nat)} {A B : Option Addr} {n ca cb : Nat} (w : World) (hn : rows.length = n) (ha : RRd w A rows) (hb : RRd w B rows) (hl : n ≤ 65536) (hls : ∀ i, i < n → (ro rows i).length ≤ 65536) :
    Calls Try.prog 15 #[.slice A n ca, .slice B n cb] w (Hands (.bool true) w) := by
  subst hn
  exact ref9_lists rows A B ca cb w ha hb (by omega) (fun i hi => Nat.le_trans (hls i hi) (by decide))
theorem same_n {l : List Nat} {A B : Option Addr} {n ca cb : Nat} (w : World) (hn : l.length = n) (ha : Rd w A l) (hb : Rd w B l) (hl : n ≤ 65536) :
    Calls Try.prog 30 #[.slice A n ca, .slice B n cb] w (Tells (.bool true) w) := by
  subst hn
  exact same_tells l A B ca cb w ha hb (by omega)
/-- A short list of rows: what is laid out. -/
theorem fl_small {R : List (List Nat)} {m : Nat} (h : ∀ t ∈ R, t.length ≤ m) : (fl R).length ≤ R.length * (m + 6) := by
  induction R with
  | nil => exact Nat.zero_le _
  | cons t R ih =>
    rw [fl_cons, List.length_append, fr_len, List.length_cons]
    have h1 := h t (List.mem_cons.2 (.inl rfl))
    have h2 := ih (fun u hu => h u (List.mem_cons.2 (.inr hu)))
    rw [Nat.succ_mul]
    omega
theorem parts12 (R : List (List Nat)) (k : Nat) : fl (R.take k) ++ fl (R.drop k) = fl R := by rw [← fl_app, List.take_append_drop]
theorem parts12_le (R : List (List Nat)) (k : Nat) : (fl (R.take k)).length ≤ (fl R).length ∧ (fl (R.drop k)).length ≤ (fl R).length ∧ (fl (R.take k)).length + (fl (R.drop k)).length = (fl R).length := by
  have h := congrArg List.length (parts12 R k)
  rw [List.length_append] at h
  omega
theorem row_one {l : List Nat} {m : Nat} (h : l.length ≤ m) : ∀ i, i < 1 → (ro [l] i).length ≤ m := fun i hi => by
  have : i = 0 := by omega
  subst this
  exact h
theorem ok_len {R : List (List Nat)} {k : Nat} (h : Lok R k) : ∀ i, i < R.length → (ro R i).length ≤ 1000 := fun i hi => by
  have := (h.ok (ro R i) (ro_in R i hi)).1
  exact this.2
end Go.Proofs.Ytfbnckecfapakaa

/-
  The laws' first call of layer 12. Conditions: none.
-/
namespace Go.Proofs.Ytfbnckecfapakaa
open Go.RowKit
open Pol (co Sm)

theorem al_nil12 : al [] = ([], 0) := al_er (e := 2) (by unfold nx; simp)
theorem aw_al : al (fl [[7]] ++ crs (fl [[8]]) (kept 3 7) 0) = ([[7]], 7) := by
  obtain ⟨e, he⟩ := nx_crs_cut [8] 3 0 (by decide)
  have e8 : fl [[8]] = fr [8] := by unfold fl; simp
  rw [e8, show kept 3 7 = 3 from by decide, al_app _ _ (fun t ht => by rw [List.mem_singleton.1 ht]; exact ⟨by decide, by decide⟩), al_er he]
  rfl
theorem ok7 : FrOk [7] ∧ FrOk [8] := ⟨⟨by decide, by decide⟩, ⟨by decide, by decide⟩⟩
theorem fl78 : (fl []).length = 0 ∧ (fl [[7]]).length = 7 ∧ (fl [[8]]).length = 7 ∧ (fl [[7], [8]]).length = 14 := ⟨rfl, rfl, rfl, rfl⟩
theorem rrd_one12 (w : World) (A : Option Addr) (n c : Nat) (l : List Nat) (hn : l.length = n) (hc : n ≤ c) (hr : Rd w A l) : RRd (w.alloc (.cells #[.slice A n c] 22)) (some ⟨w.heap.size, 0, none⟩) [l] := fun i hi => by
  have : i = 0 := by simpa using hi
  subst this
  subst hn
  refine ⟨w.heap.size, 0, A, c, rfl, ?_, hc, hr.ext ((Ext.refl w).alloc _)⟩
  rw [cell_of_row _ _ _ _ _ _ (heap_alloc_new w _)]
  rfl
set_option maxHeartbeats 1600000 in
set_option maxRecDepth 100000 in
theorem awake12 {I : LogP} (C : JournalSaid I) (w : World) : Calls Try.prog 9 #[] w (Holds w) := by
  have HC := Lib.hid C
  have HO := Lib.hid (lg_open C (F := []) (L := []) (A := none) (B := none) (nf := 0) (ca := 0) (nl := 0) (cb := 0) w rfl rfl (Rd.nil _ _) (Rd.nil _ _) (by decide))
  rw [List.append_nil, al_nil12] at HO
  clear C
  go_enter Try.func9, Try.ntmps9
  go_wp2_with fail
  refine HO.out.mono ?_
  rintro e w1 ⟨hx1, lb, X1, rfl, hg1, _⟩
  have HX1 := Lib.hid hx1
  have hxa := (Ext.refl w1).alloc (.cells #[.int .u8 7] 5)
  have HG1 := Lib.hid (Lg.ext HC.out hg1 hxa)
  have HXA := Lib.hid (hx1.trans hxa)
  have HR1 := Lib.hid (rd_one w1 7 (by decide))
  clear hx1 hg1 hxa
  go_wp2_with fail
  refine (lg_append_ok HC.out HG1.out ok7.1 (n := 1) rfl HR1.out (Nat.le_refl _) (by decide) HXA.out.size).mono ?_
  rintro e w2 ⟨ho2, rfl, hg2⟩
  have HX2 := Lib.hid (ho2.ext HXA.out (fun b hb => (HG1.out.2 b hb).1))
  have HG2 := Lib.hid hg2
  clear ho2 hg2
  go_wp2_with fail
  refine (lg_sync HC.out HG2.out (by decide) HX2.out.size).mono ?_
  rintro e w3 ⟨rfl, ho3, hg3⟩
  have HX3 := Lib.hid (ho3.ext HX2.out (fun b hb => (HG2.out.2 b hb).1))
  have hxb := (Ext.refl w3).alloc (.cells #[.int .u8 8] 5)
  have HG3 := Lib.hid (Lg.ext HC.out hg3 hxb)
  have HXB := Lib.hid (HX3.out.trans hxb)
  have HR3 := Lib.hid (rd_one w3 8 (by decide))
  clear ho3 hg3 hxb
  go_wp2_with fail
  refine (lg_append_ok HC.out HG3.out ok7.2 (n := 1) rfl HR3.out (Nat.le_refl _) (by decide) HXB.out.size).mono ?_
  rintro e w4 ⟨ho4, rfl, hg4⟩
  have HX4 := Lib.hid (ho4.ext HXB.out (fun b hb => (HG3.out.2 b hb).1))
  have HG4 := Lib.hid (show Lg I _ lb w4 [[7], [8]] 1 w.heap.size from hg4)
  clear ho4 hg4
  go_wp2_with fail
  refine (lg_disk HC.out HG4.out (by decide)).mono ?_
  rintro e w5 ⟨hx5, A5, nf, ca, B5, nl, cb, rfl, hs1, hs2⟩
  have HX5 := Lib.hid (HX4.out.trans hx5)
  have HG5 := Lib.hid (Lg.ext HC.out HG4.out hx5)
  have hnf := hs1.len
  have hnl := hs2.len
  rw [show fl (([[7], [8]] : List (List Nat)).take 1) = fl [[7]] from rfl] at hs1
  rw [show fl (([[7], [8]] : List (List Nat)).drop 1) = fl [[8]] from rfl] at hs2
  have HS1 := Lib.hid hs1
  have HS2 := Lib.hid hs2
  have hnf7 : nf = 7 := by rw [← hnf]; rfl
  have hnl7 : nl = 7 := by rw [← hnl]; rfl
  clear hs1 hs2 hx5 hnf hnl
  subst hnf7
  subst hnl7
  go_wp2_with fail
  refine (dk_crash HC.out 3 0 w5 HS1.out.len HS2.out.len HS1.out.rd HS2.out.rd (by decide) (by decide) HS2.out.cap (by decide)).mono ?_
  rintro e w6 ⟨hx6, A6, n6, c6, B6, m6, d6, rfl, hs1, hs2⟩
  have HX6 := Lib.hid (HX5.out.trans hx6)
  have HG6 := Lib.hid (Lg.ext HC.out HG5.out hx6)
  have HS3 := Lib.hid hs1
  have HS4 := Lib.hid hs2
  have hn6 : n6 = 10 := by rw [← hs1.len]; rfl
  have hm6 : m6 = 0 := by rw [← hs2.len]; rfl
  clear hs1 hs2 hx6
  subst hn6
  subst hm6
  have HO2 := Lib.hid (lg_open HC.out (ca := c6) (cb := d6) w6 HS3.out.len HS4.out.len HS3.out.rd HS4.out.rd (by decide))
  rw [List.append_nil, aw_al] at HO2
  go_wp2_with fail
  refine HO2.out.mono ?_
  rintro e w7 ⟨hx7, lc, X7, rfl, hg7, _⟩
  have HX7 := Lib.hid (HX6.out.trans hx7)
  have HG7 := Lib.hid (Lg.ext HC.out HG6.out hx7)
  have HM7 := Lib.hid hg7
  clear hx7 hg7
  go_wp2_with fail
  refine (lg_records HC.out HG7.out (by decide)).mono ?_
  rintro e w8 ⟨hx8, V8, n8, c8, rfl, hn8, _, _, _⟩
  have hn8' : n8 = 2 := hn8.symm
  subst hn8'
  have HX8 := Lib.hid (HX7.out.trans hx8)
  have HG8 := Lib.hid (Lg.ext HC.out HG7.out hx8)
  have HM8 := Lib.hid (Lg.ext HC.out HM7.out hx8)
  clear hx8 hn8
  go_wp2_with fail
  refine (lg_fast HC.out HG8.out).mono ?_
  rintro e w9 ⟨rfl, hx9⟩
  have HX9 := Lib.hid (HX8.out.trans hx9)
  have HM9 := Lib.hid (Lg.ext HC.out HM8.out hx9)
  clear hx9
  go_wp2_with fail
  refine (lg_records HC.out HM9.out (by decide)).mono ?_
  rintro e w10 ⟨hx10, V10, n10, c10, rfl, hn10, hc10, hr10, _⟩
  have hn10' : n10 = 1 := hn10.symm
  subst hn10'
  have HX10 := Lib.hid (HX9.out.trans hx10)
  have HR10 := Lib.hid hr10
  clear hx10 hn10 hc10 hr10
  have hxc := (Ext.refl w10).alloc (.cells #[.int .u8 7] 5)
  have hxd := hxc.alloc (.cells #[.slice (some ⟨w10.heap.size, 0, none⟩) 1 1] 22)
  have hsz : (w10.alloc (.cells #[.int .u8 7] 5)).heap.size = w10.heap.size + 1 := by simp
  have hrl := rrd_one12 (w10.alloc (.cells #[.int .u8 7] 5)) (some ⟨w10.heap.size, 0, none⟩) 1 1 [7] rfl (Nat.le_refl _) (rd_one w10 7 (by decide))
  rw [hsz] at hrl
  have HRL := Lib.hid hrl
  have HRX := Lib.hid (HR10.out.ext hxd)
  have HXD := Lib.hid (HX10.out.trans hxd)
  clear hxc hxd hsz hrl
  go_wp2_with fail
  refine (lists_n _ rfl HRX.out HRL.out (by decide) (row_one (by decide))).mono ?_
  rintro e w11 ⟨rfl, m, rfl⟩
  go_wp2
  go_ret
  exact ⟨rfl, HXD.out.drewN m⟩
end Go.Proofs.Ytfbnckecfapakaa

/-
  Parts of slices of rows. Conditions: none; no function is named here.
-/
namespace Go.Proofs.Ytfbnckecfapakaa
open Go.RowKit
open Pol (co Sm)

/-- s[:h] of rows. -/
theorem run_to_rows (A : Option Addr) (len cap h : Nat) (hh : h ≤ cap) (W : World) :
    (Instr.slice 35 (.slice A len cap) none (some (.int .i64 (h : Int))) none).run Try.prog W = .ok (.slice A h cap) W := by
  obtain ⟨i0, hi, hz0, hz1, hz2⟩ := info_parts row_info
  have he : Try.prog.elem 35 = 22 := by kernel_rfl
  rw [run_slice_h W 35 _ len cap (by rw [he]; exact Try.underlying35) .i64 (h : Int) (by omega) (by omega), he]
  cases A <;> simp [sizeOf, typeInfo, hi, hz1, Result.andThen, sliced, Addr.add]
theorem ro_take (rows : List (List Nat)) (k i : Nat) (h : i < k) : ro (rows.take k) i = ro rows i := by unfold ro; rw [List.getElem?_take, if_pos h]
theorem RRd.take {w : World} {A : Option Addr} {rows : List (List Nat)} (h : RRd w A rows) (k : Nat) : RRd w A (rows.take k) := fun i hi => by
  rw [List.length_take] at hi
  rw [ro_take rows k i (by omega)]
  exact h i (by omega)
/-- s[l:] of rows, whole. -/
theorem run_rest_rows (A : Option Addr) (len cap l : Nat) (hl : l ≤ len) (hc : len ≤ cap) : ∃ X : Option Addr, (∀ W, (Instr.slice 35 (.slice A len cap) (some (.int .i64 (l : Int))) none none).run Try.prog W = .ok (.slice X (len - l) (cap - l)) W) ∧
    (∀ w rows, RRd w A rows → rows.length = len → RRd w X (rows.drop l)) := by
  obtain ⟨i0, hi, hz0, hz1, hz2⟩ := info_parts row_info
  have he : Try.prog.elem 35 = 22 := by kernel_rfl
  refine ⟨if cap = l then A else A.map (·.add l), fun W => ?_, fun w rows h hL i hi => ?_⟩
  · rw [run_slice_l W 35 _ len cap (by rw [he]; exact Try.underlying35) .i64 (l : Int) (by omega) (by omega), he]
    cases A <;> simp [sizeOf, typeInfo, hi, hz1, Result.andThen, sliced]
  · rw [List.length_drop] at hi
    have e : ro (rows.drop l) i = ro rows (l + i) := by unfold ro; rw [List.getElem?_drop]
    obtain ⟨b', o', B, c, e', hc', hl', hr'⟩ := h (l + i) (by omega)
    subst e'
    refine ⟨b', o' + l, B, c, by rw [if_neg (by omega)]; simp [addr_add], ?_, ?_, ?_⟩
    · rw [e, Nat.add_assoc]; exact hc'
    · rw [e]; exact hl'
    · rw [e]; exact hr'
end Go.Proofs.Ytfbnckecfapakaa

/-
  Rows that are appended one after the other, as the laws of layer 12 do it. Conditions: none; no function is named here.
-/
namespace Go.Proofs.Ytfbnckecfapakaa
open Go.RowKit
open Pol (co Sm)

/-- How many records are durable behind the first i of them. -/
def kAt (s i : Nat) : Nat := if s ≤ i then s else 0
/-- The first i rows are short, and frames. -/
def OkR (rows : List (List Nat)) (i : Nat) : Prop := ∀ j, j < i → FrOk (ro rows j) ∧ (ro rows j).length ≤ 60
theorem OkR.all {rows : List (List Nat)} {i : Nat} (h : OkR rows i) (hi : i ≤ rows.length) : ∀ t ∈ rows.take i, FrOk t ∧ t.length ≤ 60 := fun t ht => by
  obtain ⟨j, hj, rfl⟩ := ro_mem ht
  have hj' : j < i := by rw [List.length_take] at hj; omega
  rw [ro_take rows i j hj']
  exact h j hj'
theorem OkR.fl {rows : List (List Nat)} {i : Nat} (h : OkR rows i) (hi : i ≤ rows.length) (hn : rows.length ≤ 12) : (fl (rows.take i)).length ≤ 792 := by
  have h1 := fl_small (R := rows.take i) (m := 60) fun t ht => (h.all hi t ht).2
  rw [List.length_take] at h1
  have : min i rows.length ≤ 12 := by omega
  omega
theorem OkR.succ {rows : List (List Nat)} {i : Nat} (h : OkR rows i) (h1 : 1 ≤ (ro rows i).length) (h2 : (ro rows i).length ≤ 60) : OkR rows (i + 1) := fun j hj => by
  rcases Nat.lt_or_ge j i with e | e
  · exact h j e
  · obtain rfl : j = i := by omega
    exact ⟨⟨h1, by omega⟩, h2⟩
theorem v64_eq (z : Int) (m : Nat) (hz : z = (m : Int)) (h : m ≤ 1099511627776) : Value.int .i64 (wrap64 z) = Value.int .i64 (m : Int) := by
  subst hz
  congr 1
  unfold wrap64
  omega
/-- What Records told stays where only blocks ahead of it change. -/
theorem rows_only {R : List (List Nat)} {base : Nat} {w w' : World} {V : Option Addr} {X : Nat → Prop}
    (h : ∀ i, i < R.length → ∃ g o v, V = some ⟨g, o, none⟩ ∧ base ≤ g ∧ w.cell? ⟨g, o + i, none⟩ = some v ∧ OwnW base v w (ro R i) ∧ (∀ b' o' n' c', v = .slice (some ⟨b', o', none⟩) n' c' → b' ≠ g))
    (ho : Only X w w') (hx : ∀ b, X b → b < base) : RRd w' V R := fun i hi => by
  obtain ⟨g, o, v, hR, hg, hc, ⟨B, c, rfl, hlc, hr, hb⟩, _⟩ := h i hi
  refine ⟨g, o, B, c, hR, ho.cell hc (fun e => by have := hx g e; omega), hlc, hr.1, fun j hj => ?_⟩
  obtain ⟨b, o', e, hcell⟩ := hr.2 j hj
  exact ⟨b, o', e, ho.cell hcell (fun e2 => by have := hx b e2; have := (hb b o' e (by omega)).1; omega)⟩
theorem rows_reads {R : List (List Nat)} {base : Nat} {w : World} {V : Option Addr}
    (h : ∀ i, i < R.length → ∃ g o v, V = some ⟨g, o, none⟩ ∧ base ≤ g ∧ w.cell? ⟨g, o + i, none⟩ = some v ∧ OwnW base v w (ro R i) ∧ (∀ b' o' n' c', v = .slice (some ⟨b', o', none⟩) n' c' → b' ≠ g)) : RRd w V R :=
  rows_only h (Only.refl (fun _ => False) w) (fun _ h => absurd h id)
end Go.Proofs.Ytfbnckecfapakaa

/-
  The law JournalTorn, walked, under what layer 12's functions are to do. Conditions: none.
-/
namespace Go.Proofs.Ytfbnckecfapakaa
open Go.RowKit
open Pol (co Sm)

set_option maxHeartbeats 800000 in
set_option maxRecDepth 100000 in
theorem torn12_walk {I : LogP} (C : JournalSaid I) (l0 : List (List Nat)) (a0 : Option Addr) (c0 : Nat) (x1 : Nat) (x2 : Int) (x3 : Nat) (w : World) (hr0 : RRd w a0 l0) (hc0 : l0.length ≤ c0) (hx1 : x1 < 256) (hx3 : x3 < 256) :
    Calls Try.prog 6 #[.slice a0 l0.length c0, .int .u8 (x1 : Int), .int .i64 x2, .int .u8 (x3 : Int)] w (Holds w) := by
  have HAW := Lib.hid (fun W => awake12 C W)
  have HC := Lib.hid C
  clear C
  by_cases hbig : l0.length ≤ 12 ∧ x3 ≠ 0
  · obtain ⟨hl12, hx30⟩ := hbig
    have HSMR := Lib.hid (fun i (hi : i < l0.length) => show Sm (ro l0 i) from hr0.sm _ (ro_in l0 i hi))
    have HR0 := Lib.hid hr0
    have HO := Lib.hid (fun W => lg_open HC.out (F := []) (L := []) (A := none) (B := none) (nf := 0) (ca := 0) (nl := 0) (cb := 0) W rfl rfl (Rd.nil _ _) (Rd.nil _ _) (by decide))
    rw [List.append_nil, al_nil12] at HO
    obtain ⟨n, hn⟩ : ∃ n, l0.length = n := ⟨_, rfl⟩
    have HN := Lib.hid hn
    rw [hn] at hl12 hc0 HSMR ⊢
    obtain ⟨s, hs⟩ : ∃ s, x1 % (n + 1) = s := ⟨_, rfl⟩
    have hsn : s ≤ n := by have := Nat.mod_lt x1 (show 0 < n + 1 by omega); omega
    have d1 : decide (12 < (n : Int)) = false := decide_eq_false (by omega)
    have d2 : ((x3 : Int) == 0) = false := by simp; omega
    have d3 : decide ((x3 : Int) = 0) = false := decide_eq_false (by omega)
    have d4 : ¬ (x3 : Int) = 0 := by omega
    have HXB := Lib.hid (And.intro hx1 (And.intro hx3 (And.intro hs (And.intro hx30 (And.intro hc0 hl12)))))
    clear hr0 hn hx1 hx3 hs hx30
    go_enter Try.func6, Try.ntmps6
    go_wp2_with fail
    refine (HAW.out w).mono ?_
    rintro e v1 ⟨rfl, hv1⟩
    have HX1 := Lib.hid hv1
    clear hv1
    go_wp2_with fail
    refine (HO.out v1).mono ?_
    rintro e v2 ⟨hx2, lb, X2, rfl, hg2, _⟩
    have HX2E := Lib.hid hx2
    have HG2 := Lib.hid hg2
    have HS2 := Lib.hid HX1.out.size
    clear hx2 hg2
    go_wp2
    go_loopg [28] n (fun g s28 wx => ∃ (i : Nat) (X : Nat → Prop), i + g = n ∧ s28 = .int .i64 (i : Int) ∧ Lg I X lb wx (l0.take i) (kAt s i) v1.heap.size ∧ OkR l0 i ∧ Ext v1 wx)
    case atStart => exact ⟨0, X2, by omega, rfl, by rw [List.take_zero, show kAt s 0 = 0 from by unfold kAt; split <;> omega]; exact HG2.out, fun j hj => by omega, HX2E.out⟩
    case round =>
      obtain ⟨i, X, hig, rfl, hg, hok, hx⟩ := hrel
      have HG := Lib.hid hg
      have HOK := Lib.hid hok
      have HX := Lib.hid hx
      have HFL := Lib.hid (hok.fl (by rw [HN.out]; omega) (by rw [HN.out]; exact hl12))
      clear hg hok hx
      cases gk with
      | zero =>
        obtain rfl : i = n := by omega
        clear hig
        have hks : kAt s i = s := if_pos hsn
        have htk : l0.take i = l0 := by rw [← HN.out, List.take_length]
        have HG0 := Lib.hid (show Lg I X lb wr l0 s v1.heap.size from by have h := HG.out; rwa [hks, htk] at h)
        have hfl : (fl l0).length ≤ 792 := by have h := HFL.out; rwa [htk] at h
        have hple := parts12_le l0 s
        have HPL := Lib.hid (And.intro hfl hple)
        have HLO := Lib.hid (Lg.lok HC.out HG0.out)
        obtain ⟨hxb1, hxb3, hxbs, hxb0, hc0', hl12'⟩ := HXB.out
        have HX3B := Lib.hid hxb3
        clear hks htk hple hxb1 hxb3 hxbs hxb0 hc0' hl12' HG
        go_wp2_with fail
        refine (lg_disk HC.out HG0.out (by omega)).mono ?_
        rintro e w3 ⟨hx3, A3, nf, ca, B3, nl, cb, rfl, hs1, hs2⟩
        have HX3 := Lib.hid (HX.out.trans hx3)
        have HG3 := Lib.hid (Lg.ext HC.out HG0.out hx3)
        have HS1 := Lib.hid hs1
        have HS2 := Lib.hid hs2
        have hnf : nf ≤ 792 := by rw [← hs1.len]; have := HPL.out.2.1; omega
        have hnl : nl ≤ 792 := by rw [← hs2.len]; have := HPL.out.2.2.1; omega
        clear hx3 hs1 hs2 HG0
        go_wp2_with fail
        refine (dk_crash HC.out x2 x3 _ HS1.out.len HS2.out.len HS1.out.rd HS2.out.rd (by omega) (by omega) HS2.out.cap HX3B.out).mono ?_
        rintro e w4 ⟨hx4, A4, n4, c4, B4, m4, d4', rfl, hs3, hs4⟩
        obtain ⟨m, hm1, hm2, hal⟩ := al_crash l0 s (kept x2 nl) x3 HX3B.out HLO.out.ok HLO.out.le (by rw [HS2.out.len]; exact kept_le _ _)
        have hkl := kept_le x2 nl
        have hn4 : n4 ≤ 2000 := by rw [← hs3.len, List.length_append, crs_len _ _ _ (by rw [HS2.out.len]; exact hkl), HS1.out.len]; omega
        have hm4 : m4 = 0 := by rw [← hs4.len]; rfl
        subst hm4
        have HX4 := Lib.hid (HX3.out.trans hx4)
        have HG4 := Lib.hid (Lg.ext HC.out HG3.out hx4)
        have HO4 := Lib.hid (lg_open HC.out (ca := c4) (cb := d4') w4 hs3.len hs4.len hs3.rd hs4.rd (by omega))
        rw [List.append_nil, hal] at HO4
        have hmn : m ≤ i := by rw [HN.out] at hm2; exact hm2
        have htl : (l0.take m).length = m := by rw [List.length_take, HN.out]; omega
        have HTL := Lib.hid htl
        have HRM := Lib.hid (show (fl (l0.take m)).length ≤ 65536 from by have := (parts12_le l0 m).1; omega)
        rw [show ((l0.take m, (fl (l0.take m)).length) : List (List Nat) × Nat).1 = l0.take m from rfl, htl] at HO4
        clear hx4 hs3 hs4 hal hm2 hkl htl HG3
        go_wp2_with fail
        refine HO4.out.mono ?_
        rintro e w5 ⟨hx5, lc, X5, rfl, hg5, _⟩
        have HX5 := Lib.hid (HX4.out.trans hx5)
        have HG5 := Lib.hid (Lg.ext HC.out HG4.out hx5)
        have HM5 := Lib.hid hg5
        clear hx5 hg5
        go_wp2_with fail
        refine (lg_records HC.out HM5.out HRM.out).mono ?_
        rintro e w6 ⟨hx6, V6, n6, c6, rfl, hn6, hc6, hr6, _⟩
        have hn6' : n6 = m := by rw [← hn6, HTL.out]
        subst hn6'
        have HX6 := Lib.hid (HX5.out.trans hx6)
        have HG6 := Lib.hid (Lg.ext HC.out HG5.out hx6)
        have HR6 := Lib.hid hr6
        clear hx6 hn6 hc6 hr6
        have d5 : decide ((s : Int) ≤ (n6 : Int)) = true := decide_eq_true (by omega)
        have d6 : decide ((n6 : Int) ≤ (i : Int)) = true := decide_eq_true (by omega)
        have h5 : (s : Int) ≤ (n6 : Int) := by omega
        have h6 : (n6 : Int) ≤ (i : Int) := by omega
        go_wp2_with fail
        refine (lg_fast HC.out HG6.out).mono ?_
        rintro e w7 ⟨rfl, hx7⟩
        have HX7 := Lib.hid (HX6.out.trans hx7)
        have HR7 := Lib.hid (HR6.out.ext hx7)
        have ht7 := run_to_rows a0 i c0 n6 (by omega)
        have HRA := Lib.hid ((HR0.out.ext (HX1.out.trans HX7.out)).take n6)
        clear hx7
        go_wp2_with fail
        refine (lists_n _ HTL.out HR7.out HRA.out (by omega) (fun j hj => by rw [ro_take l0 n6 j hj]; have := (HOK.out j (by omega)).2; omega)).mono ?_
        rintro e w8 ⟨rfl, q, rfl⟩
        go_wp2
        go_ret
        exact ⟨rfl, (HX1.out.trans HX7.out).drewN q⟩
      | succ gk =>
        have hi : i < n := by omega
        have hiI : (i : Int) < (n : Int) := by omega
        obtain ⟨b, o, B, cb, rfl, hcell, hbl, hbr⟩ := HR0.out i (by rw [HN.out]; exact hi)
        have hcell' := (HX1.out.trans HX.out).at hcell
        have HBR := Lib.hid (hbr.ext (HX1.out.trans HX.out))
        obtain ⟨t, ht⟩ : ∃ t, ro l0 i = t := ⟨_, rfl⟩
        obtain ⟨m, hm⟩ : ∃ m, (ro l0 i).length = m := ⟨_, rfl⟩
        have HT := Lib.hid ht
        have HM := Lib.hid hm
        rw [hm] at hcell' hbl
        have HBL := Lib.hid hbl
        clear hcell hbr ht hm hbl
        by_cases hm1 : 1 ≤ m ∧ m ≤ 60
        · obtain ⟨hm1, hm2⟩ := hm1
          have d5 : decide ((m : Int) < 1) = false := decide_eq_false (by omega)
          have d6 : decide (60 < (m : Int)) = false := decide_eq_false (by omega)
          go_wp2_with fail
          refine (lg_append_ok HC.out HG.out (t := ro l0 i) ⟨by rw [HM.out]; exact hm1, by rw [HM.out]; omega⟩ HM.out HBR.out HBL.out (by have := HFL.out; omega) HX.out.size).mono ?_
          rintro e w3 ⟨ho3, rfl, hg3⟩
          rw [← take_ro l0 i (by rw [HN.out]; exact hi)] at hg3
          have HX3 := Lib.hid (ho3.ext HX.out (fun j hj => (HG.out.2 j hj).1))
          have HG3 := Lib.hid hg3
          have HOK3 := Lib.hid (HOK.out.succ (by rw [HM.out]; exact hm1) (by rw [HM.out]; exact hm2))
          clear ho3 hg3 hcell'
          obtain ⟨hxb1, _, hxbs, _⟩ := HXB.out
          have eX := v64_eq (x1 : Int) x1 rfl (by omega)
          have eT : (x1 : Int).tmod ((n : Int) + 1) = (s : Int) := by rw [Int.tmod_eq_emod_of_nonneg (by omega), ← hxbs]; simp
          clear hxb1 hxbs
          by_cases his : i + 1 = s
          · have h7 : (i : Int) + 1 = (s : Int) := by omega
            go_wp2_with fail
            refine (lg_sync HC.out HG3.out (by have := HOK3.out.fl (by rw [HN.out]; omega) (by rw [HN.out]; exact hl12); omega) HX3.out.size).mono ?_
            rintro e w4 ⟨rfl, ho4, hg4⟩
            have HX4 := Lib.hid (ho4.ext HX3.out (fun j hj => (HG3.out.2 j hj).1))
            rw [show (l0.take (i + 1)).length = kAt s (i + 1) from by rw [List.length_take, HN.out]; unfold kAt; split <;> omega] at hg4
            have HG4 := Lib.hid hg4
            clear ho4 hg4
            go_wp2
            go_roundg gk
            case measure => omega
            case rel => exact ⟨i + 1, _, by omega, by go_num, HG4.out, HOK3.out, HX4.out⟩
          · have d7 : ((i : Int) + 1 == (s : Int)) = false := by simp; omega
            have h7 : ¬ (i : Int) + 1 = (s : Int) := by omega
            rw [show kAt s i = kAt s (i + 1) from by unfold kAt; split <;> split <;> omega] at HG3
            go_wp2
            go_roundg gk
            case measure => omega
            case rel => exact ⟨i + 1, _, by omega, by go_num, HG3.out, HOK3.out, HX3.out⟩
        · have hm0 : m = 0 ∨ 60 < m := by omega
          rcases hm0 with hm0 | hm0
          · have d5 : decide ((m : Int) < 1) = true := decide_eq_true (by omega)
            have h5 : (m : Int) < 1 := by omega
            clear hm0 hm1
            go_wp2
            go_ret
            exact ⟨rfl, HX1.out.trans HX.out⟩
          · have d5 : decide ((m : Int) < 1) = false := decide_eq_false (by omega)
            have d6 : decide (60 < (m : Int)) = true := decide_eq_true (by omega)
            have h5 : ¬ (m : Int) < 1 := by omega
            have h6 : 60 < (m : Int) := by omega
            clear hm1
            go_wp2
            go_ret
            exact ⟨rfl, HX1.out.trans HX.out⟩
  · by_cases hl12 : l0.length ≤ 12
    · have hx30 : x3 = 0 := by
        rcases Nat.eq_zero_or_pos x3 with h | h
        · exact h
        · exact absurd ⟨hl12, by omega⟩ hbig
      subst hx30
      have d1 : decide (12 < (l0.length : Int)) = false := decide_eq_false (by omega)
      generalize l0.length = n at *
      clear hr0 hbig
      go_enter Try.func6, Try.ntmps6
      go_wp2_with fail
      refine (HAW.out w).mono ?_
      rintro e v1 ⟨rfl, hv1⟩
      have HX1 := Lib.hid hv1
      clear hv1
      go_wp2_with fail
      refine (HAW.out v1).mono ?_
      rintro e v2 ⟨rfl, hv2⟩
      have HX2 := Lib.hid (HX1.out.trans hv2)
      clear hv2
      go_wp2
      go_ret
      exact ⟨rfl, HX2.out⟩
    · have d1 : decide (12 < (l0.length : Int)) = true := decide_eq_true (by omega)
      have h1 : 12 < (l0.length : Int) := by omega
      generalize l0.length = n at *
      clear hr0 hbig hl12
      go_enter Try.func6, Try.ntmps6
      go_wp2_with fail
      refine (HAW.out w).mono ?_
      rintro e v1 ⟨rfl, hv1⟩
      have HX1 := Lib.hid hv1
      clear hv1
      go_wp2_with fail
      refine (HAW.out v1).mono ?_
      rintro e v2 ⟨rfl, hv2⟩
      have HX2 := Lib.hid (HX1.out.trans hv2)
      clear hv2
      go_wp2
      go_ret
      exact ⟨rfl, HX2.out⟩
end Go.Proofs.Ytfbnckecfapakaa

/-
  What remainders of layer 9 does: of each four bits what dividing them leaves. Conditions: none.
-/
namespace Go.Proofs.Ytfbnckecfapakaa
open Go.RowKit
open Pol (co Sm)

/-- Numbers of 32 bits as cells, by a function of the place. -/
def dt (n : Nat) (f : Nat → Nat) : Array Value := Array.ofFn (n := n) fun i => Value.int .u32 ((f i.val : Nat) : Int)
theorem dt_size (n : Nat) (f : Nat → Nat) : (dt n f).size = n := by simp [dt]
theorem dt_at (n : Nat) (f : Nat → Nat) (i : Nat) (h : i < n) : (dt n f)[i]? = some (.int .u32 ((f i : Nat) : Int)) := by simp [dt, h]
theorem dt_set (n : Nat) (f : Nat → Nat) (k v : Nat) : (dt n f).setIfInBounds k (.int .u32 (v : Int)) = dt n (upd f k v) := by
  apply Array.ext (by simp [dt])
  intro i h1 h2
  have hi : i < (dt n f).size := by simpa using h1
  rw [Array.getElem_setIfInBounds hi]
  simp only [dt, Array.getElem_ofFn, upd]
  by_cases e : k = i
  · subst e; simp
  · rw [if_neg e, if_neg (fun h => e h.symm)]
theorem dt_congr (n : Nat) {f g : Nat → Nat} (h : ∀ i, i < n → f i = g i) : dt n f = dt n g := by
  apply Array.ext (by simp [dt])
  intro i h1 h2
  have hi : i < n := by simpa [dt] using h1
  simp only [dt, Array.getElem_ofFn, h i hi]
/-- The block of a table of sixteen. -/
def TBk (w : World) (g : Nat) (f : Nat → Nat) : Prop := w.heap[g]? = some (.cells (dt 16 f) 81 (0, 0))
theorem TBk.cell {w : World} {g : Nat} {f : Nat → Nat} (h : TBk w g f) (i : Nat) (hi : i < 16) : w.cell? ⟨g, i, none⟩ = some (.int .u32 ((f i : Nat) : Int)) := by rw [cell_of_row w g i _ _ _ h, dt_at 16 f i hi]
theorem TBk.frozen {w : World} {g : Nat} {f : Nat → Nat} (h : TBk w g f) (i : Nat) : w.frozen? ⟨g, i, none⟩ = false := frozen_of_row w g i _ _ h
theorem TBk.store {w : World} {g : Nat} {f : Nat → Nat} (h : TBk w g f) (k v : Nat) : TBk (w.setCell ⟨g, k, none⟩ (.int .u32 (v : Int))) g (upd f k v) := by
  unfold TBk
  rw [heap_setCell_same w g k _ _ _ h, dt_set]
theorem TBk.congr {w : World} {g : Nat} {f f' : Nat → Nat} (h : TBk w g f) (hf : ∀ i, i < 16 → f i = f' i) : TBk w g f' := by
  unfold TBk at *
  rw [h, dt_congr 16 hf]
theorem TBk.lt {w : World} {g : Nat} {f : Nat → Nat} (h : TBk w g f) : g < w.heap.size := by
  rcases Nat.lt_or_ge g w.heap.size with hlt | hge
  · exact hlt
  · unfold TBk at h; rw [Array.getElem?_eq_none hge] at h; cases h
theorem TBk.ext {w w' : World} {g : Nat} {f : Nat → Nat} (h : TBk w g f) (hx : Ext w w') : TBk w' g f := (hx.below.block g h.lt).trans h
theorem zero_table : (∀ w, (zeroValue 81).run Try.prog w = .ok (.agg (dt 16 fun _ => 0)) w) ∧ (Try.prog.info? 81).map (·.size) = some 16 := by
  have e : dt 16 (fun _ => 0) = Array.replicate 16 (.int .u32 0) := by
    apply Array.ext (by simp [dt])
    intro i h1 h2
    simp [dt]
  rw [e]
  exact zero_of_info (by kernel_rfl)
theorem crz_mul (d : Nat) : crz d = d / 2 ^^^ (d % 2 * 3988292384) := by
  unfold crz
  split
  · rename_i h; rw [h, Nat.zero_mul, Nat.xor_zero]
  · rename_i h; rw [show d % 2 = 1 by omega, Nat.one_mul]
theorem dt_one (n : Nat) (f : Nat → Nat) : (dt n f).all (·.oneCell') = true := by
  rw [Array.all_eq_true]; intro i h; simp [dt, Value.oneCell']
theorem info16 (f : Nat → Nat) : (Try.prog.info? 81).map (·.size) = some (dt 16 f).size := by rw [dt_size]; exact zero_table.2
/-- The table as far as it is filled. -/
def rt (k : Nat) : Nat → Nat := fun i => if i < k then czn 4 i else 0
theorem rt_zero : dt 16 (rt 0) = #[.int .u32 0, .int .u32 0, .int .u32 0, .int .u32 0, .int .u32 0, .int .u32 0, .int .u32 0, .int .u32 0, .int .u32 0, .int .u32 0, .int .u32 0, .int .u32 0, .int .u32 0, .int .u32 0, .int .u32 0, .int .u32 0] := by
  have e : dt 16 (rt 0) = Array.replicate 16 (.int .u32 0) := by
    apply Array.ext (by simp [dt])
    intro i h1 h2
    simp [dt, rt]
  rw [e]
  rfl
theorem rt_succ (k i : Nat) : upd (rt k) k (czn 4 k) i = rt (k + 1) i := by
  unfold upd rt
  by_cases h : i = k
  · subst h; rw [if_pos rfl, if_pos (by omega)]
  · rw [if_neg h]
    by_cases h2 : i < k
    · rw [if_pos h2, if_pos (by omega)]
    · rw [if_neg h2, if_neg (by omega)]

set_option maxHeartbeats 800000 in
set_option maxRecDepth 100000 in
theorem cr_remainders (w : World) : Calls Try.prog 47 #[] w (Tells (.agg (dt 16 fun i => czn 4 i)) w) := by
  have HZ := Lib.hid rt_zero
  go_enter Try.func47, Try.ntmps47
  go_wp2
  go_loopg [6] 16 (fun g s wx => ∃ k : Nat, k + g = 16 ∧ s = .int .i64 (k : Int) ∧ TBk wx w.heap.size (rt 0) ∧ TBk wx (w.heap.size + 1) (rt k) ∧ Ext w wx)
  case atStart =>
    refine ⟨0, by omega, rfl, ?_, ?_, ((Ext.refl w).alloc _).alloc _⟩
    · unfold TBk; rw [HZ.out]; exact (heap_alloc_old (w.alloc _) _ (r := w.heap.size) (by simp)).trans (heap_alloc_new w _)
    · unfold TBk; rw [HZ.out]; have h := heap_alloc_new (w.alloc (.cells (dt 16 (rt 0)) 81)) (.cells (dt 16 (rt 0)) 81)
      rw [show (w.alloc (.cells (dt 16 (rt 0)) 81)).heap.size = w.heap.size + 1 from by simp, HZ.out] at h
      exact h
  case round =>
    obtain ⟨k, hkg, rfl, h0, h1, hx⟩ := hrel
    have H0 := Lib.hid h0
    have H1 := Lib.hid h1
    have HX := Lib.hid hx
    clear h0 h1 hx
    cases gk with
    | zero =>
      have hk16 : k = 16 := by omega
      have hkI : ¬ (k : Int) < 16 := by omega
      have d1 : decide ((k : Int) < 16) = false := decide_eq_false hkI
      have hg : wr.heap[w.heap.size + 1]? = some (.cells (dt 16 (rt k)) 81 (0, 0)) := H1.out
      rw [dt_congr 16 (f := rt k) (g := fun i => czn 4 i) (fun i hi => if_pos (by omega))] at hg
      have hin := info16 (fun i => czn 4 i)
      have hsz : (dt 16 (rt 0)).size = (dt 16 fun i => czn 4 i).size := by rw [dt_size, dt_size]
      have hon := dt_one 16 (fun i => czn 4 i)
      generalize hV : (dt 16 fun i => czn 4 i) = V at *
      have hg3 := setRow_heap wr w.heap.size _ V _ _ H0.out
      have HG0 := Lib.hid (show wr.heap[w.heap.size]? = some (.cells (dt 16 (rt 0)) 81 (0, 0)) from H0.out)
      have HVE := Lib.hid hV
      have HG := Lib.hid hg
      have HIN := Lib.hid hin
      have HSZ := Lib.hid hsz
      have HON := Lib.hid hon
      have HG3 := Lib.hid hg3
      have HX3 := Lib.hid (HX.out.setRow (Nat.le_refl _) V)
      clear hkg hk16 hg hin hsz hon hg3 hV
      go_wp2_with (first | (with_reducible refine wpList_load_row rfl 81 (.tmp 1) rfl (w.heap.size + 1) rfl 81 V (0, 0) _ HG.out Try.underlying81 rfl HIN.out ?_) | (with_reducible refine wpList_store_all rfl 81 (.tmp 0) (.tmp 25) rfl w.heap.size (dt 16 (rt 0)) V rfl rfl HG0.out HIN.out HSZ.out HON.out ?_))
      exact ⟨rfl, .agg V, results_cell_row Try.results47 _ _ w.heap.size 81 V (0, 0) _ rfl HG3.out Try.underlying81 rfl HIN.out, by rw [HVE.out], HX3.out⟩
    | succ g =>
      have hk : k < 16 := by omega
      have hkI : (k : Int) < 16 := by omega
      have HKG := Lib.hid hkg
      clear hkg
      obtain ⟨wo, hwo⟩ : ∃ wo, wo = wr := ⟨_, rfl⟩
      subst hwo
      go_wp2
      go_loopg [3, 11] 4 (fun g s3 s11 wx => ∃ j d : Nat, j + g = 4 ∧ s3 = .int .u32 (d : Int) ∧ s11 = .int .i64 (j : Int) ∧ d = czn j k ∧ wx = wo)
      case atStart => exact ⟨0, k, by omega, by go_num, rfl, rfl, rfl⟩
      case round =>
        obtain ⟨j, d, hjg, rfl, rfl, hd, rfl⟩ := hrel
        have hd32 : d < 4294967296 := by rw [hd]; exact czn_lt j (by omega)
        cases gk with
        | zero =>
          have hj4 : j = 4 := by omega
          have hjI : ¬ (j : Int) < 4 := by omega
          have d1 : decide ((j : Int) < 4) = false := decide_eq_false hjI
          rw [hj4] at hd
          have hfz := H1.out.frozen k
          have hc := H1.out.cell k hk
          have H0' := Lib.hid (show TBk (wr.setCell ⟨w.heap.size + 1, k, none⟩ (.int .u32 (d : Int))) w.heap.size (rt 0) from (heap_setCell_other wr ⟨w.heap.size + 1, k, none⟩ w.heap.size _ (by simp)).trans H0.out)
          have H1' := Lib.hid (show TBk (wr.setCell ⟨w.heap.size + 1, k, none⟩ (.int .u32 (d : Int))) (w.heap.size + 1) (rt (k + 1)) from by
            have h := H1.out.store k d
            rw [hd] at h ⊢
            exact h.congr (fun i _ => rt_succ k i))
          have HX' := Lib.hid (HX.out.setCell (p := ⟨w.heap.size + 1, k, none⟩) (by simp) (.int .u32 (d : Int)))
          clear hd hjg hj4
          go_wp2
          go_roundg g
          case measure => omega
          case rel => exact ⟨k + 1, by have := HKG.out; omega, by go_num, H0'.out, H1'.out, HX'.out⟩
        | succ g2 =>
          have hj : j < 4 := by omega
          have hjI : (j : Int) < 4 := by omega
          obtain ⟨u, hu⟩ : ∃ u, d % 2 = u := ⟨_, rfl⟩
          obtain ⟨h, hh⟩ : ∃ h, d / 2 = h := ⟨_, rfl⟩
          obtain ⟨p, hp⟩ : ∃ p, u * 3988292384 = p := ⟨_, rfl⟩
          obtain ⟨X, hX⟩ : ∃ X, h ^^^ p = X := ⟨_, rfl⟩
          have hu2 : u < 2 := by omega
          have hp32 : p < 4294967296 := by omega
          have HN := Lib.hid (show X = czn (j + 1) k from by rw [czn_succ, ← hd, crz_mul, hu, hh, hp, hX])
          have da : bits .and .u32 (d : Int) 1 = (u : Int) := by rw [← hu, ← Nat.and_one_is_mod]; exact u32_and_nat d 1 hd32 (by decide)
          have ds : (d : Int).tdiv 2 = (h : Int) := by rw [Int.tdiv_eq_ediv_of_nonneg (by omega)]; omega
          have ds' : (d : Int) / 2 = (h : Int) := by omega
          have dm : (u : Int) * 3988292384 = (p : Int) := by omega
          have hh32 : h < 4294967296 := by omega
          have dx : bits .xor .u32 (h : Int) (p : Int) = (X : Int) := by rw [← hX]; exact u32_xor_nat h p hh32 hp32
          have hX32 : X < 4294967296 := by rw [HN.out]; exact czn_lt _ (by omega)
          clear hd hu hh hp hX
          go_wp2
          go_roundg g2
          case measure => omega
          case rel => exact ⟨j + 1, X, by omega, by go_num, by go_num, HN.out, rfl⟩
end Go.Proofs.Ytfbnckecfapakaa

/-
  What More and Of of layer 9 do: the bytes' state by groups of four bits. Conditions: no more than 2^16 bytes.
-/
namespace Go.Proofs.Ytfbnckecfapakaa
open Go.RowKit
open Pol (co Sm)

/-- By a table of sixteen: four bits at once. -/
theorem czn_nib (r : Nat) : czn 4 r = r / 16 ^^^ czn 4 (r % 16) := by
  have h2 : r = 2 ^ 4 * (r / 16) ^^^ r % 16 := by
    rw [← add_xor 4 _ _ (Nat.mod_lt _ (by decide)), show (2 : Nat) ^ 4 = 16 from rfl]
    omega
  conv => lhs; rw [h2]
  rw [czn_lin, czn_pow]
theorem czn_four (r m : Nat) : czn (4 * (m + 1)) r = czn (4 * m) r / 16 ^^^ czn 4 (czn (4 * m) r % 16) := by
  rw [Nat.mul_succ, czn_add, czn_nib]
theorem not_u32 {x : Nat} (h : x < 4294967296) : bits .xor .u32 IntKind.u32.max (x : Int) = ((x ^^^ 4294967295 : Nat) : Int) := by
  have h1 := u32_xor_nat 4294967295 x (by decide) h
  rw [Nat.xor_comm] at h1
  exact h1

set_option maxHeartbeats 1600000 in
set_option maxRecDepth 100000 in
theorem cr_more (s : Nat) (l : List Nat) (A : Option Addr) (ca : Nat) (w : World) (hs : s < 4294967296) (hr : Rd w A l) (hl : l.length ≤ 65536) :
    Calls Try.prog 46 #[.int .u32 (s : Int), .slice A l.length ca] w (Tells (.int .u32 ((crf (s ^^^ 4294967295) (co l) l.length ^^^ 4294967295 : Nat) : Int)) w) := by
  obtain ⟨s0, hs0⟩ : ∃ s0, s ^^^ 4294967295 = s0 := ⟨_, rfl⟩
  have hs32 : s0 < 4294967296 := by rw [← hs0]; exact Nat.xor_lt_two_pow (n := 32) hs (by decide)
  have hs1 : bits .xor .u32 IntKind.u32.max (s : Int) = (s0 : Int) := by rw [not_u32 hs, hs0]
  rw [hs0]
  obtain ⟨n, hn⟩ : ∃ n, l.length = n := ⟨_, rfl⟩
  have HCR := Lib.hid (fun j => crf_lt (c := s0) (f := co l) hs32 hr.1 j)
  have HSM := Lib.hid hr.1
  have HR := Lib.hid hr
  have HN := Lib.hid hn
  obtain ⟨V, hV⟩ : ∃ V, crf s0 (co l) n ^^^ 4294967295 = V := ⟨_, rfl⟩
  rw [hn] at hl ⊢
  rw [hV]
  have HV := Lib.hid (show bits .xor .u32 IntKind.u32.max ((crf s0 (co l) n : Nat) : Int) = (V : Int) from by rw [not_u32 (HCR.out n), hV])
  have HRM := Lib.hid (cr_remainders w)
  clear hr hs0 hn hV
  go_enter Try.func46, Try.ntmps46
  go_wp2_with fail
  refine HRM.out.mono ?_
  rintro e w1 ⟨rfl, hx1⟩
  have hz := zero_table.1
  have h0 := heap_alloc_new w1 (.cells (dt 16 fun _ => 0) 81)
  have hx2 := hx1.alloc (.cells (dt 16 fun _ => 0) 81)
  have hin := info16 (fun i => czn 4 i)
  have hsz : (dt 16 fun _ => 0).size = (dt 16 fun i => czn 4 i).size := by rw [dt_size, dt_size]
  have hon := dt_one 16 (fun i => czn 4 i)
  have ht := fun (w : World) (g : Nat) (h : w.heap[g]? = some (.cells (dt 16 fun i => czn 4 i) 81 (0, 0))) => (show TBk w g (fun i => czn 4 i) from h)
  generalize (dt 16 fun i => czn 4 i) = V2 at *
  have hb := ht _ _ (setRow_heap _ _ _ V2 _ _ h0)
  have hx3 := hx2.setRow (g := w1.heap.size) hx1.size V2
  obtain ⟨w2, hw2⟩ : ∃ w2, (w1.alloc (Obj.cells (dt 16 fun _ => 0) 81)).setRow w1.heap.size V2 = w2 := ⟨_, rfl⟩
  rw [hw2] at hb hx3
  have HW2 := Lib.hid hw2
  have HG0 := Lib.hid h0
  have HIN := Lib.hid hin
  have HSZ := Lib.hid hsz
  have HON := Lib.hid hon
  have HB := Lib.hid hb
  have HX := Lib.hid hx3
  clear hw2 h0 hx1 hx2 hin hsz hon ht hb hx3
  go_wp2_with (first | (with_reducible refine wpList_alloc_zero rfl 81 rfl (dt 16 fun _ => 0) hz ?_) | (with_reducible refine wpList_store_all rfl 81 (.tmp 5) (.tmp 10) rfl w1.heap.size (dt 16 fun _ => 0) V2 rfl rfl HG0.out HIN.out HSZ.out HON.out ?_; rw [HW2.out]))
  clear hz
  clear hs1
  generalize w1.heap.size = tb at HB ⊢
  have HR2 := Lib.hid (HR.out.ext HX.out)
  go_loopg [6, 15] n (fun g s6 s15 wx => ∃ j c : Nat, j + g = n ∧ c = crf s0 (co l) j ∧ s6 = .int .u32 (c : Int) ∧ s15 = .int .i64 (j : Int) ∧ w2 = wx)
  case atStart => exact ⟨0, s0, by omega, rfl, rfl, rfl, rfl⟩
  case round =>
    obtain ⟨j, c, hjg, hc, rfl, rfl, rfl⟩ := hrel
    have hc32 : c < 4294967296 := by rw [hc]; exact HCR.out j
    cases gk with
    | zero =>
      have hjn : j = n := by omega
      have hv : bits .xor .u32 IntKind.u32.max (c : Int) = (V : Int) := by rw [hc, hjn]; exact HV.out
      have hjI : ¬ (j : Int) < (n : Int) := by omega
      have d1 : decide ((j : Int) < (n : Int)) = false := decide_eq_false hjI
      clear hc hjg hjn
      go_wp2
      go_ret
      exact ⟨rfl, HX.out⟩
    | succ g =>
      have hj : j < n := by omega
      have hjI : (j : Int) < (n : Int) := by omega
      obtain ⟨b0, o, rfl, hcb⟩ := HR2.out.2 j (by rw [HN.out]; exact hj)
      have hb256 : co l j < 256 := HSM.out j
      have hb32 : co l j < 4294967296 := by omega
      obtain ⟨x, hx⟩ : ∃ x, c ^^^ co l j = x := ⟨_, rfl⟩
      have HC := Lib.hid (show crf s0 (co l) (j + 1) = czn (4 * 2) x from by
        rw [crf, ← hc, hx])
      have hx32 : x < 4294967296 := by rw [← hx]; exact Nat.xor_lt_two_pow (n := 32) hc32 hb32
      obtain ⟨b, hb⟩ : ∃ b, co l j = b := ⟨_, rfl⟩
      rw [hb] at hcb hb256 hb32 hx
      have q1 : IntKind.u32.wrap (b : Int) = (b : Int) := by rw [IntKind.wrap_u32]; omega
      have ex : bits .xor .u32 (c : Int) (b : Int) = (x : Int) := by rw [← hx]; exact u32_xor_nat c b hc32 hb32
      have HJG := Lib.hid hjg
      clear hc hb hjg hx
      go_wp2
      go_loopg [6, 23] 2 (fun g s6 s23 wx => ∃ m r : Nat, m + g = 2 ∧ r = czn (4 * m) x ∧ s6 = .int .u32 (r : Int) ∧ s23 = .int .i64 (m : Int) ∧ w2 = wx)
      case atStart => exact ⟨0, x, by omega, rfl, rfl, rfl, rfl⟩
      case round =>
        obtain ⟨m, r, hmg, hr, rfl, rfl, rfl⟩ := hrel
        have hr32 : r < 4294967296 := by rw [hr]; exact czn_lt _ hx32
        cases gk with
        | zero =>
          have hm2 : m = 2 := by omega
          have hmI : ¬ (m : Int) < 2 := by omega
          have d1 : decide ((m : Int) < 2) = false := decide_eq_false hmI
          have HF := Lib.hid (show r = crf s0 (co l) (j + 1) from by rw [HC.out, hr, hm2])
          clear hr hmg hm2
          go_wp2
          go_roundg g
          case measure => omega
          case rel => exact ⟨j + 1, r, by have := HJG.out; omega, HF.out, rfl, by go_num, rfl⟩
        | succ g2 =>
          have hm : m < 2 := by omega
          have hmI : (m : Int) < 2 := by omega
          obtain ⟨u, hu⟩ : ∃ u, r % 16 = u := ⟨_, rfl⟩
          obtain ⟨h, hh⟩ : ∃ h, r / 16 = h := ⟨_, rfl⟩
          obtain ⟨p, hp⟩ : ∃ p, czn 4 u = p := ⟨_, rfl⟩
          obtain ⟨X, hX⟩ : ∃ X, h ^^^ p = X := ⟨_, rfl⟩
          have hu16 : u < 16 := by omega
          have huI : (u : Int) < 16 := by omega
          have hp32 : p < 4294967296 := by rw [← hp]; exact czn_lt 4 (by omega)
          have hct := HB.out.cell u hu16
          rw [hp] at hct
          have HN2 := Lib.hid (show X = czn (4 * (m + 1)) x from by rw [czn_four, ← hr, hu, hh, hp, hX])
          have hh32 : h < 4294967296 := by omega
          have e1 : (r : Int).tmod 16 = (u : Int) := by rw [Int.tmod_eq_emod_of_nonneg (by omega)]; omega
          have e1' : (r : Int) % 16 = (u : Int) := by omega
          have e2 : (r : Int).tdiv 16 = (h : Int) := by rw [Int.tdiv_eq_ediv_of_nonneg (by omega)]; omega
          have e2' : (r : Int) / 16 = (h : Int) := by omega
          have dx : bits .xor .u32 (h : Int) (p : Int) = (X : Int) := by rw [← hX]; exact u32_xor_nat h p hh32 hp32
          clear hr hu hh hp hX
          go_wp2
          go_roundg g2
          case measure => omega
          case rel => exact ⟨m + 1, X, by omega, HN2.out, by go_num, by go_num, rfl⟩
theorem cr_of (l : List Nat) (A : Option Addr) (ca : Nat) (w : World) (hr : Rd w A l) (hl : l.length ≤ 65536) :
    Calls Try.prog 44 #[.slice A l.length ca] w (Tells (.int .u32 ((crcl l : Nat) : Int)) w) := by
  have HM := Lib.hid (cr_more 0 l A ca w (by decide) hr hl)
  rw [Nat.zero_xor] at HM
  obtain ⟨v, hv⟩ : ∃ v, crcl l = v := ⟨_, rfl⟩
  rw [show crf 4294967295 (co l) l.length ^^^ 4294967295 = crcl l from rfl, hv] at HM
  rw [hv]
  clear hr hl hv
  go_enter Try.func44, Try.ntmps44
  go_wp2_with fail
  refine HM.out.mono ?_
  rintro e w1 ⟨rfl, hx1⟩
  have HX := Lib.hid hx1
  clear hx1
  go_wp2
  go_ret
  exact ⟨rfl, HX.out⟩
end Go.Proofs.Ytfbnckecfapakaa

/-
  What bytes.Clone does. Conditions: no more than 2^16 bytes.
-/
namespace Go.Proofs.Ytfbnckecfapakaa
open Go.RowKit
open Pol (co Sm)

/-- Bytes of a call's own that read as these. -/
def CloneS (t : List Nat) (w : World) (e : Ending) (w' : World) : Prop := Ext w w' ∧ ∃ v, e = .returned v ∧ Mine w' w.heap.size v t
set_option maxHeartbeats 800000 in
set_option maxRecDepth 100000 in
theorem cr_clone (t : List Nat) (A : Option Addr) (c : Nat) (w : World) (hr : Rd w A t) (hl : t.length ≤ 65536) : Calls Try.prog 39 #[.slice A t.length c] w (CloneS t w) := by
  unfold CloneS
  have HR := Lib.hid hr
  obtain ⟨n, hn⟩ : ∃ n, t.length = n := ⟨_, rfl⟩
  have HN := Lib.hid hn
  rw [hn] at hl ⊢
  have qn : ∀ (W : World) (B : Option Addr) (n c : Nat), (binOp .eql 22 (.slice B n c) (.slice none 0 0)).run Try.prog W = .ok (.bool B.isNone) W := fun W B n c => Lib.run_eql_slice_nil W _ _ B n c 0 0 Try.underlying22
  cases A with
  | none =>
    have ht : t = [] := by
      rcases Nat.eq_zero_or_pos t.length with h | h
      · exact List.eq_nil_of_length_eq_zero h
      · obtain ⟨_, _, e, _⟩ := hr.2 0 h; cases e
    have HT := Lib.hid ht
    clear hr hn ht
    go_enter Try.func39, Try.ntmps39
    go_wp2
    skip
    go_ret
    exact ⟨Ext.refl _, _, rfl, by rw [HT.out]; exact Mine.nil _ _⟩
  | some a =>
    have hx := (Ext.refl w).alloc (.cells #[] 5)
    have HX := Lib.hid hx
    have HM := Lib.hid (mine_empty w)
    clear hr hn hx
    go_enter Try.func39, Try.ntmps39
    go_wp2_with (at_builtin; refine wpList_append_rd rfl (.tmp 5) (.tmp 6) rfl w.heap.size (.slice (some ⟨w.heap.size, 0, none⟩) 0 0) [] t rfl HM.out (some a) n c rfl HN.out (HR.out.ext HX.out) (by rw [HN.out]; simp; omega) HX.out.size ?_; intro v' w3 hown' hg' hat'; rw [List.nil_append] at hown'; have HM2 := Lib.hid hown'; have HX2 := Lib.hid (HX.out.more hg' (fun k e => (HM.out.block k e).1)); clear hown' hg' hat')
    go_ret
    exact ⟨HX2.out, _, rfl, HM2.out⟩
end Go.Proofs.Ytfbnckecfapakaa

/-
  What fits, header of layer 9 and bytes.Clone do. Conditions: no more than 2^16 bytes for header.
-/
namespace Go.Proofs.Ytfbnckecfapakaa
open Go.RowKit
open Pol (co Sm)

theorem cr_fits_yes (n : Nat) (h1 : 1 ≤ n) (h2 : n ≤ 1000) (w : World) : Calls Try.prog 41 #[.int .i64 (n : Int)] w (fun e w' => e = .returned (.bool true) ∧ w = w') := by
  have d1 : decide ((n : Int) < 1) = false := decide_eq_false (by omega)
  have d1' : decide (1 ≤ (n : Int)) = true := decide_eq_true (by omega)
  have d2 : decide ((n : Int) ≤ 1000) = true := decide_eq_true (by omega)
  have d2' : decide (1000 < (n : Int)) = false := decide_eq_false (by omega)
  go_enter Try.func41, Try.ntmps41
  go_wp2
  go_ret
  exact ⟨rfl, rfl⟩
theorem cr_fits_no (n : Nat) (h : ¬ (1 ≤ n ∧ n ≤ 1000)) (w : World) : Calls Try.prog 41 #[.int .i64 (n : Int)] w (fun e w' => e = .returned (.bool false) ∧ w = w') := by
  by_cases h1 : 1 ≤ n
  · have d1 : decide ((n : Int) < 1) = false := decide_eq_false (by omega)
    have d1' : decide (1 ≤ (n : Int)) = true := decide_eq_true (by omega)
    have d2 : decide ((n : Int) ≤ 1000) = false := decide_eq_false (by omega)
    have d2' : decide (1000 < (n : Int)) = true := decide_eq_true (by omega)
    clear h
    go_enter Try.func41, Try.ntmps41
    go_wp2
    go_ret
    exact ⟨rfl, rfl⟩
  · have d1 : decide ((n : Int) < 1) = true := decide_eq_true (by omega)
    have d1' : decide (1 ≤ (n : Int)) = false := decide_eq_false (by omega)
    clear h
    go_enter Try.func41, Try.ntmps41
    go_wp2
    go_ret
    exact ⟨rfl, rfl⟩
def Z6 : Array Value := #[.int .u8 0, .int .u8 0, .int .u8 0, .int .u8 0, .int .u8 0, .int .u8 0]
theorem zero6 : (Try.prog.info? 72).map (·.size) = some 6 := (zero_of_info (v := .agg (Array.replicate 6 (.int .u8 0))) (by kernel_rfl)).2
theorem header_cells (t : List Nat) : (bv (t.length / 256 :: t.length % 256 :: cbs (crcl t))).toArray = #[.int .u8 ((t.length / 256 : Nat) : Int), .int .u8 ((t.length % 256 : Nat) : Int), .int .u8 ((crcl t / 16777216 : Nat) : Int), .int .u8 ((crcl t / 65536 % 256 : Nat) : Int), .int .u8 ((crcl t / 256 % 256 : Nat) : Int), .int .u8 ((crcl t % 256 : Nat) : Int)] := rfl
set_option maxHeartbeats 800000 in
set_option maxRecDepth 100000 in
theorem cr_header (t : List Nat) (A : Option Addr) (c : Nat) (w : World) (hr : Rd w A t) (hl : t.length ≤ 65535) :
    Calls Try.prog 42 #[.slice A t.length c] w (Tells (.agg (bv (t.length / 256 :: t.length % 256 :: cbs (crcl t))).toArray) w) := by
  have HO0 := Lib.hid (fun W (hx : Ext w W) => cr_of t A c W (hr.ext hx) (by omega))
  have hcl := crcl_lt hr.1
  rw [header_cells]
  obtain ⟨C, hC⟩ : ∃ C, crcl t = C := ⟨_, rfl⟩
  obtain ⟨n, hn⟩ : ∃ n, t.length = n := ⟨_, rfl⟩
  rw [hn, hC] at HO0 ⊢
  rw [hC] at hcl
  rw [hn] at hl
  obtain ⟨x0, hx0⟩ : ∃ x, n / 256 = x := ⟨_, rfl⟩
  obtain ⟨x1, hx1⟩ : ∃ x, n % 256 = x := ⟨_, rfl⟩
  obtain ⟨y0, hy0⟩ : ∃ x, C / 16777216 = x := ⟨_, rfl⟩
  obtain ⟨y1, hy1⟩ : ∃ x, C / 65536 = x := ⟨_, rfl⟩
  obtain ⟨y2, hy2⟩ : ∃ x, C / 256 = x := ⟨_, rfl⟩
  obtain ⟨z1, hz1⟩ : ∃ x, y1 % 256 = x := ⟨_, rfl⟩
  obtain ⟨z2, hz2⟩ : ∃ x, y2 % 256 = x := ⟨_, rfl⟩
  obtain ⟨z3, hz3⟩ : ∃ x, C % 256 = x := ⟨_, rfl⟩
  rw [hx0, hx1, hy0, hy1, hy2, hz1, hz2, hz3]
  have e0 : (n : Int).tdiv 256 = (x0 : Int) := by rw [Int.tdiv_eq_ediv_of_nonneg (by omega)]; omega
  have e0' : (n : Int) / 256 = (x0 : Int) := by omega
  have e2 : (C : Int) / 16777216 = (y0 : Int) := by omega
  have e3 : (C : Int) / 65536 = (y1 : Int) := by omega
  have e4 : (C : Int) / 256 = (y2 : Int) := by omega
  have w0 : IntKind.u8.wrap (x0 : Int) = (x0 : Int) := IntWalk.u8_in _ (by omega)
  have w1 : IntKind.u8.wrap (n : Int) = (x1 : Int) := by rw [IntKind.wrap_u8]; omega
  have w2 : IntKind.u8.wrap (y0 : Int) = (y0 : Int) := IntWalk.u8_in _ (by omega)
  have w3 : IntKind.u8.wrap (y1 : Int) = (z1 : Int) := by rw [IntKind.wrap_u8]; omega
  have w4 : IntKind.u8.wrap (y2 : Int) = (z2 : Int) := by rw [IntKind.wrap_u8]; omega
  have w5 : IntKind.u8.wrap (C : Int) = (z3 : Int) := by rw [IntKind.wrap_u8]; omega
  have hbx : x0 < 256 ∧ x1 < 256 ∧ y0 < 256 := by omega
  have hby : y1 < 4294967296 ∧ y2 < 4294967296 ∧ z1 < 256 ∧ z2 < 256 ∧ z3 < 256 := by omega
  obtain ⟨hb1, hb2, hb3⟩ := hbx
  obtain ⟨hb4, hb5, hb6, hb7, hb8⟩ := hby
  clear hx0 hx1 hy0 hy1 hy2 hz1 hz2 hz3 hC hn hr
  have HX0 := Lib.hid ((Ext.refl w).alloc (.cells #[.int .u8 0, .int .u8 0, .int .u8 0, .int .u8 0, .int .u8 0, .int .u8 0] 72))
  have HO2 := Lib.hid (fun W (hx : Ext w W) => show Calls Try.prog 44 #[.slice A n c] W (Tells (.int .u32 (C : Int)) W) from HO0.out W hx)
  go_enter Try.func42, Try.ntmps42
  go_wp2_with fail
  refine (HO2.out _ HX0.out).mono ?_
  rintro e w1 ⟨rfl, hx1⟩
  have hg := (hx1.below.block w.heap.size (by simp)).trans (heap_alloc_new w (.cells Z6 72))
  have hin : (Try.prog.info? 72).map (·.size) = some (#[.int .u8 (x0 : Int), .int .u8 (x1 : Int), .int .u8 (y0 : Int), .int .u8 (z1 : Int), .int .u8 (z2 : Int), .int .u8 (z3 : Int)] : Array Value).size := zero6
  have hon : (#[.int .u8 (x0 : Int), .int .u8 (x1 : Int), .int .u8 (y0 : Int), .int .u8 (z1 : Int), .int .u8 (z2 : Int), .int .u8 (z3 : Int)] : Array Value).all (·.oneCell') = true := by simp [Value.oneCell']
  have hsz : Z6.size = (#[.int .u8 (x0 : Int), .int .u8 (x1 : Int), .int .u8 (y0 : Int), .int .u8 (z1 : Int), .int .u8 (z2 : Int), .int .u8 (z3 : Int)] : Array Value).size := rfl
  obtain ⟨V, hV⟩ : ∃ V, (#[.int .u8 (x0 : Int), .int .u8 (x1 : Int), .int .u8 (y0 : Int), .int .u8 (z1 : Int), .int .u8 (z2 : Int), .int .u8 (z3 : Int)] : Array Value) = V := ⟨_, rfl⟩
  rw [hV] at hin hon hsz ⊢
  have hg3 := setRow_heap w1 w.heap.size Z6 V _ _ hg
  have HV := Lib.hid hV
  have HG := Lib.hid hg
  have HIN := Lib.hid hin
  have HON := Lib.hid hon
  have HSZ := Lib.hid hsz
  have HG3 := Lib.hid hg3
  have HX3 := Lib.hid ((HX0.out.trans hx1).setRow (g := w.heap.size) (Nat.le_refl _) V)
  clear hx1 hg hin hon hsz hV hg3
  go_wp2_with (first | (rw [HV.out]; with_reducible refine wpList_store_all rfl 72 (.tmp 2) (.tmp 25) rfl w.heap.size Z6 V rfl rfl HG.out HIN.out HSZ.out HON.out ?_))
  exact ⟨rfl, .agg V, results_cell_row Try.results42 _ _ w.heap.size 72 V (0, 0) _ rfl HG3.out Try.underlying72 rfl HIN.out, by rw [HV.out], HX3.out⟩
end Go.Proofs.Ytfbnckecfapakaa

/-
  What Frame of layer 9 does. Conditions: none.
-/
namespace Go.Proofs.Ytfbnckecfapakaa
open Go.RowKit
open Pol (co Sm)

set_option maxRecDepth 100000 in
/-- An append to a slice without room. -/
theorem run_append_full9 (w : World) (ty : TypeId) (b o n c : Nat) (l m : List Nat) (hn : l.length = n) (hr : Rd w (some ⟨b, o, none⟩) l) (a : Addr) (hm : Rd w (some a) m) (h0 : 0 < m.length) (hlen : l.length + m.length ≤ 1099511627776) :
    ∃ v' w', (Builtin.append_ #[22, 22] ty #[.slice (some ⟨b, o, none⟩) n n, .slice (some a) m.length c]).run Try.prog w = .ok v' w' ∧ Mine w' w.heap.size v' (l ++ m) ∧ Ext w w' := by
  subst hn
  obtain ⟨i0, hi, hz0, hz1, hz2⟩ := info_parts u8_info
  have hcells : ∀ (L : List Nat) (A : Addr), Rd w (some A) L → ∀ j u, (bv L)[j]? = some u → w.cell? (A.add j) = some u := fun L A h j u hu => by
    have hj : j < L.length := by
      have := (List.getElem?_eq_some_iff.1 hu).1
      rwa [bv_len] at this
    obtain ⟨b, o, e, hc⟩ := h.2 j hj
    injection e with e
    subst e
    rw [addr_add, hc, ← bv_at L j hj, hu]
  obtain ⟨v', w', h1, h2, h3⟩ := run_append_arg_grows (P := Try.prog) w 22 ty 5 i0 (.int .u8 0) 1 1 Try.underlying22 hi hz0 hz1 hz2 rfl (by omega) ⟨b, o, none⟩ l.length l.length (bv l) (by rw [bv_len, Nat.mul_one]) (hcells l _ hr)
    a m.length c (bv m) (by rw [bv_len, Nat.mul_one]) (hcells m _ hm) (by omega) (by unfold maxLen; omega) (by omega)
  exact ⟨v', w', h1, by unfold Mine; rw [List.length_append, bv_append]; exact h2, (Ext.refl w).more h3 (fun k e => by cases e)⟩
theorem wpList_append_full9 {ops : Array Oper} {rest : List Oper} {op : Oper} {a : Act} {w : World} {Q : Exit → Act → World → Prop} (hgd : op.guard = none) (s x : Operand)
    (ho : op.op = .call { callee := .builtin .append, args := #[s, x], argTypes := #[22, 22] })
    (b o n : Nat) (l m : List Nat) (hs : a.eval s = .slice (some ⟨b, o, none⟩) n n) (hn : l.length = n) (hr : Rd w (some ⟨b, o, none⟩) l) (A : Addr) (c k : Nat) (hx : a.eval x = .slice (some A) k c) (hk : m.length = k) (hm : Rd w (some A) m) (h0 : 0 < m.length)
    (hlen : l.length + m.length ≤ 1099511627776)
    (h : ∀ v' w', Mine w' w.heap.size v' (l ++ m) → Ext w w' → wpList Try.prog ops Q rest (a.put op.dst v') w') : wpList Try.prog ops Q (op :: rest) a w := by
  subst hk
  refine wpList_plain hgd fun K hK => ?_
  obtain ⟨v', w', hrun, h2, h3⟩ := run_append_full9 w op.type b o n c l m hn hr A hm h0 hlen
  unfold Oper.wp execOp
  simp only [ho, resolve, invoke, builtin, Sem.run_bind, Sem.run_pure, Result.andThen_ok, List.map_toArray, List.map_cons, List.map_nil, hs, hx, hrun]
  exact hK _ _ (h v' w' h2 h3)
/-- A frame's head. -/
def hd6 (t : List Nat) : List Nat := t.length / 256 :: t.length % 256 :: cbs (crcl t)
theorem hd6_len (t : List Nat) : (hd6 t).length = 6 := rfl
theorem fr_hd6 (t : List Nat) : fr t = hd6 t ++ t := rfl
theorem hd6_sm {t : List Nat} (h : Sm t) (hl : t.length ≤ 65535) : Sm (hd6 t) := by
  have hc := crcl_lt h
  exact Sm.cons (by omega) (Sm.cons (by omega) (cbs_sm hc))
theorem Mine.ownT {w : World} {base : Nat} {v : Value} {t : List Nat} (h : Mine w base v t) (hs : Sm t) : OwnT base v w t := by
  obtain ⟨B, c, rfl, hc, hr⟩ := h.slice hs
  exact ⟨B, c, rfl, hc, hr, fun b o e _ => (h.block b (by rw [e]; rfl)).1⟩
theorem Mine.ownW {w : World} {base : Nat} {v : Value} {t : List Nat} (h : Mine w base v t) (hs : Sm t) : OwnW base v w t := by
  obtain ⟨B, c, rfl, hc, hr⟩ := h.slice hs
  refine ⟨B, c, rfl, hc, hr, fun b o e _ => ⟨(h.block b (by rw [e]; rfl)).1, fun i _ => ?_⟩⟩
  subst e
  rcases h.2 with ⟨e, _⟩ | ⟨g, cap, cur, e, _, hg, _⟩
  · cases e
  · injection e with e1 e2 e3
    injection e1 with e1
    injection e1 with e1 e2
    subst e1; subst e2
    rw [Nat.zero_add]
    exact frozen_of_row w b i cur _ hg
set_option maxHeartbeats 800000 in
set_option maxRecDepth 100000 in
theorem cr_frame_m (l : List Nat) (A : Option Addr) (c : Nat) (w : World) (hr : Rd w A l) :
    Calls Try.prog 34 #[.slice A l.length c] w (FrameE .i64 l w) := by
  unfold FrameE
  by_cases hf : FrOk l
  · obtain ⟨hf1, hf2⟩ := hf
    have HF := Lib.hid (cr_fits_yes l.length hf1 hf2 w)
    have HH := Lib.hid (cr_header l A c w hr (by omega))
    obtain ⟨a, ha⟩ : ∃ a, A = some a := by
      obtain ⟨b, o, e, _⟩ := hr.addr (by omega)
      exact ⟨_, e⟩
    subst ha
    have HR := Lib.hid hr
    have HS := Lib.hid (hd6_sm hr.1 (by omega))
    have HFO := Lib.hid (show FrOk l from ⟨hf1, hf2⟩)
    have HFH := Lib.hid (fr_hd6 l)
    have hv : (bv (hd6 l)).toArray.size = 6 := by simp [bv_len, hd6_len]
    have hone : (bv (hd6 l)).toArray.all (·.oneCell') = true := by
      rw [Array.all_eq_true]; intro i h; exact bv_one (hd6 l) _ (by simp)
    have HRD := Lib.hid (fun (W : World) (g : Nat) (h : W.heap[g]? = some (.cells (bv (hd6 l)).toArray 72 (0, 0))) => show Rd W (some ⟨g, 0, none⟩) (hd6 l) from
      ⟨hd6_sm hr.1 (by omega), fun i hi => ⟨g, 0, rfl, by rw [Nat.zero_add, cell_of_row W g i _ _ _ h]; simpa using bv_at (hd6 l) i hi⟩⟩)
    rw [show (bv (l.length / 256 :: l.length % 256 :: cbs (crcl l))).toArray = (bv (hd6 l)).toArray from rfl] at HH
    obtain ⟨V, hV⟩ : ∃ V, (bv (hd6 l)).toArray = V := ⟨_, rfl⟩
    rw [hV] at HH HRD hv hone
    obtain ⟨H6, hH6⟩ : ∃ H, hd6 l = H := ⟨_, rfl⟩
    have h6 : H6.length = 6 := by rw [← hH6]; rfl
    rw [hH6] at HFH HS HRD
    have H6L := Lib.hid h6
    have HVS := Lib.hid hv
    have HON := Lib.hid hone
    obtain ⟨n, hn⟩ : ∃ n, l.length = n := ⟨_, rfl⟩
    have HN := Lib.hid hn
    rw [hn] at HF HH hf1 hf2 ⊢
    clear hr hV hH6 hn hv hone h6
    go_enter Try.func34, Try.ntmps34
    go_wp2_with fail
    refine HF.out.mono ?_
    rintro e w1 ⟨rfl, rfl⟩
    go_wp2_with fail
    refine HH.out.mono ?_
    rintro e w1 ⟨rfl, hx1⟩
    have hg := heap_alloc_new w1 (.cells Z6 72)
    have hg3 := setRow_heap _ w1.heap.size Z6 V _ _ hg
    have hx3 := (hx1.alloc (.cells Z6 72)).setRow (g := w1.heap.size) hx1.size V
    have hin : (Try.prog.info? 72).map (·.size) = some V.size := by rw [HVS.out]; exact zero6
    have hsz : Z6.size = V.size := by rw [HVS.out]; rfl
    obtain ⟨w2, hw2⟩ : ∃ w2, (w1.alloc (.cells Z6 72)).setRow w1.heap.size V = w2 := ⟨_, rfl⟩
    rw [hw2] at hg3 hx3
    unfold Z6 at hg hw2 hsz
    have HW2 := Lib.hid hw2
    have HG := Lib.hid hg
    have HIN := Lib.hid hin
    have HSZ := Lib.hid hsz
    have HX := Lib.hid hx3
    have HR6 := Lib.hid (HRD.out _ _ hg3)
    have HRW := Lib.hid (HR.out.ext hx3)
    clear hx1 hg hg3 hx3 hin hsz hw2
    go_wp2_with (first | (with_reducible refine wpList_store_all rfl 72 (.tmp 4) (.tmp 10) rfl w1.heap.size _ V rfl rfl HG.out HIN.out HSZ.out HON.out ?_; rw [HW2.out]) | (at_builtin; refine wpList_append_full9 rfl (.tmp 11) (.tmp 12) rfl w1.heap.size 0 6 H6 l rfl H6L.out HR6.out a c n rfl HN.out HRW.out (by rw [HN.out]; omega) (by rw [H6L.out, HN.out]; omega) ?_; intro v3 w3 hm3 hx3; rw [← HFH.out] at hm3; have HM3 := Lib.hid hm3; have HX3 := Lib.hid (HX.out.trans hx3); clear hm3 hx3))
    go_ret2
    exact ⟨HX3.out, .inl ⟨HFO.out, _, rfl, HM3.out.down HX.out.size⟩⟩
  · have HF := Lib.hid (cr_fits_no l.length hf w)
    have HNO := Lib.hid hf
    generalize l.length = n at *
    clear hr hf
    go_enter Try.func34, Try.ntmps34
    go_wp2_with fail
    refine HF.out.mono ?_
    rintro e w1 ⟨rfl, rfl⟩
    go_wp2
    go_ret2
    exact ⟨Ext.refl _, .inr ⟨HNO.out, none, 0, rfl⟩⟩
theorem cr_frame (l : List Nat) (A : Option Addr) (c : Nat) (w : World) (hr : Rd w A l) :
    Calls Try.prog 34 #[.slice A l.length c] w (FrameS l w) := (cr_frame_m l A c w hr).mono fun _ _ ⟨hx, h⟩ => ⟨hx, h.imp (fun ⟨hf, v, e, hm⟩ => ⟨hf, v, e, hm.ownT (fr_sm hr.1 hf)⟩) id⟩
end Go.Proofs.Ytfbnckecfapakaa

/-
  Slices of a call's own that share no block. Conditions: none; no function is named here.
-/
namespace Go.Proofs.Ytfbnckecfapakaa
open Go.RowKit

/-- No block of one is the other's. -/
def Sp (u v : Value) : Prop := ∀ q, u.ownBlock = some q → v.ownBlock ≠ some q
theorem Sp.left {u u' v : Value} {n : Nat} (h : Sp u v) (ha : u'.ownBlock = u.ownBlock ∨ u'.ownBlock = some n) (hv : ∀ q, v.ownBlock = some q → q < n) : Sp u' v := fun q hq => by
  rcases ha with e | e
  · exact h q (e.symm.trans hq)
  · intro hv'
    rw [e] at hq
    injection hq with hq
    have := hv q hv'
    omega
theorem Sp.right {u v v' : Value} {n : Nat} (h : Sp u v) (ha : v'.ownBlock = v.ownBlock ∨ v'.ownBlock = some n) (hu : ∀ q, u.ownBlock = some q → q < n) : Sp u v' := fun q hq => by
  rcases ha with e | e
  · rw [e]; exact h q hq
  · rw [e]
    intro e'
    injection e' with e'
    have := hu q hq
    omega
theorem Mine.keep9 {w w' : World} {base : Nat} {v : Value} {l : List Nat} {row : Option Nat} (h : Mine w base v l) (hg : w.grownBy w' row) (hne : ∀ k, v.ownBlock = some k → some k ≠ row) : Mine w' base v l :=
  World.ownsRow.kept h hg (by
    cases hb : v.ownBlock with
    | none => exact .inl rfl
    | some k => exact .inr (hne k hb))
end Go.Proofs.Ytfbnckecfapakaa

/-
  Bytes of a call's own to which others are appended: in a block that is theirs, or in the first part of one, without room. Conditions: lengths up to 2^40.
-/
namespace Go.Proofs.Ytfbnckecfapakaa
open Go.RowKit
open Pol (co Sm)

/-- The first part of a block, without room. -/
def Full (w : World) (base : Nat) (v : Value) (l : List Nat) : Prop :=
  ∃ g cur, v = .slice (some ⟨g, 0, none⟩) l.length l.length ∧ base ≤ g ∧ w.heap[g]? = some (.cells cur 5) ∧ cur.toList.take l.length = bv l
def Fst (w : World) (base : Nat) (v : Value) (l : List Nat) : Prop := Sm l ∧ (Mine w base v l ∨ Full w base v l)
theorem Full.slice {w : World} {base : Nat} {v : Value} {l : List Nat} (h : Full w base v l) (hs : Sm l) : ∃ g, v = .slice (some ⟨g, 0, none⟩) l.length l.length ∧ base ≤ g ∧ g < w.heap.size ∧ Rd w (some ⟨g, 0, none⟩) l ∧ ∀ i, w.frozen? ⟨g, i, none⟩ = false := by
  obtain ⟨g, cur, rfl, hb, hg, ht⟩ := h
  refine ⟨g, rfl, hb, row_lt hg, ⟨hs, fun i hi => ⟨g, 0, rfl, ?_⟩⟩, fun i => frozen_of_row w g i cur _ hg⟩
  rw [Nat.zero_add, cell_of_row w g i cur _ _ hg, ← bv_at l i hi, ← ht, List.getElem?_take, if_pos hi]
  simp
theorem Fst.slice {w : World} {base : Nat} {v : Value} {l : List Nat} (h : Fst w base v l) : ∃ B c, v = .slice B l.length c ∧ l.length ≤ c ∧ Rd w B l := by
  obtain ⟨hs, h | h⟩ := h
  · exact h.slice hs
  · obtain ⟨g, e, _, _, hr, _⟩ := h.slice hs
    exact ⟨_, _, e, Nat.le_refl _, hr⟩
theorem Fst.ownW {w : World} {base : Nat} {v : Value} {l : List Nat} (h : Fst w base v l) : OwnW base v w l := by
  obtain ⟨hs, h | h⟩ := h
  · exact h.ownW hs
  · obtain ⟨g, e, hb, _, hr, hz⟩ := h.slice hs
    refine ⟨_, _, e, Nat.le_refl _, hr, fun b o e2 _ => ?_⟩
    injection e2 with e2
    injection e2 with e2 e3
    subst e2
    exact ⟨hb, fun i _ => hz _⟩
theorem Fst.block {w : World} {base : Nat} {v : Value} {l : List Nat} (h : Fst w base v l) : ∀ k, v.ownBlock = some k → base ≤ k ∧ k < w.heap.size := fun k hk => by
  obtain ⟨hs, h | h⟩ := h
  · exact h.block k hk
  · obtain ⟨g, rfl, hb, hg, _⟩ := h.slice hs
    injection hk with hk
    subst hk
    exact ⟨hb, hg⟩
theorem Fst.down {w : World} {base base' : Nat} {v : Value} {l : List Nat} (h : Fst w base v l) (hb : base' ≤ base) : Fst w base' v l := ⟨h.1, h.2.imp (fun h => h.down hb) (fun ⟨g, cur, h1, h2, h3⟩ => ⟨g, cur, h1, Nat.le_trans hb h2, h3⟩)⟩
theorem Fst.lift {w : World} {base base' : Nat} {v : Value} {l : List Nat} (h : Fst w base v l) (hb : ∀ k, v.ownBlock = some k → base' ≤ k) : Fst w base' v l := ⟨h.1, h.2.imp
  (fun h => ⟨h.1, h.2.imp id fun ⟨g, cap, cur, e, h2, h3⟩ => ⟨g, cap, cur, e, hb g (by rw [e]; rfl), h3⟩⟩)
  (fun ⟨g, cur, e, h2, h3⟩ => ⟨g, cur, e, hb g (by rw [e]; rfl), h3⟩)⟩
theorem Fst.stay {w w' : World} {base : Nat} {v : Value} {l : List Nat} (h : Fst w base v l) (hk : ∀ k, v.ownBlock = some k → w'.heap[k]? = w.heap[k]?) : Fst w' base v l := ⟨h.1, h.2.imp
  (fun h => ⟨h.1, h.2.imp id fun ⟨g, cap, cur, e, h2, h3, h4⟩ => ⟨g, cap, cur, e, h2, (hk g (by rw [e]; rfl)).trans h3, h4⟩⟩)
  (fun ⟨g, cur, e, h2, h3, h4⟩ => ⟨g, cur, e, h2, (hk g (by rw [e]; rfl)).trans h3, h4⟩)⟩
theorem Fst.only {X : Nat → Prop} {w w' : World} {base : Nat} {v : Value} {l : List Nat} (h : Fst w base v l) (ho : Only X w w') (hx : ∀ k, v.ownBlock = some k → ¬ X k) : Fst w' base v l :=
  h.stay fun k hk => ho.block k (h.block k hk).2 (hx k hk)
theorem Fst.ext {w w' : World} {base : Nat} {v : Value} {l : List Nat} (h : Fst w base v l) (hx : Ext w w') : Fst w' base v l := h.only (X := fun _ => False) (Only.of_ext hx) (fun _ _ h => h)
theorem Mine.fst {w : World} {base : Nat} {v : Value} {l : List Nat} (h : Mine w base v l) (hs : Sm l) : Fst w base v l := ⟨hs, .inl h⟩
theorem Fst.nil (w : World) (base : Nat) : Fst w base (.slice none 0 0) [] := ⟨Sm.nil, .inl (Mine.nil _ _)⟩
/-- The first part of bytes of a call's own. -/
theorem Mine.cut {w : World} {base : Nat} {n c : Nat} {A : Option Addr} {l : List Nat} (h : Mine w base (.slice A n c) l) (hs : Sm l) (k : Nat) (hk : k ≤ l.length) : Fst w base (.slice A k k) (l.take k) := by
  have hl : (l.take k).length = k := by rw [List.length_take]; omega
  refine ⟨Pol.co_lt_of fun x hx => hs.mem x (List.mem_of_mem_take hx), ?_⟩
  rcases h.2 with ⟨e, hn⟩ | ⟨g, cap, cur, e, hb, hg, hnc, _, hcs, ht⟩
  · injection e with e1 e2 e3
    subst e1
    have : l = [] := List.eq_nil_of_length_eq_zero hn
    subst this
    have : k = 0 := by simpa using hk
    subst this
    exact .inl (Mine.nil _ _)
  · injection e with e1 e2 e3
    subst e1
    refine .inr ⟨g, cur, by rw [hl], hb, hg, ?_⟩
    rw [hl, show bv (l.take k) = (bv l).take k from by unfold bv; rw [List.map_take], ← ht, List.take_take, Nat.mul_one, Nat.min_eq_left hk]
set_option maxRecDepth 100000 in
theorem run_append_fst (w : World) (base : Nat) (ty : TypeId) (v : Value) (l m : List Nat) (hown : Fst w base v l) (A : Option Addr) (c : Nat) (hr : Rd w A m)
    (hlen : l.length + m.length ≤ 1099511627776) (hbase : base ≤ w.heap.size) :
    ∃ v' w', (Builtin.append_ #[22, 22] ty #[v, .slice A m.length c]).run Try.prog w = .ok v' w' ∧ Fst w' base v' (l ++ m) ∧ w.grownBy w' v.ownBlock ∧ (v'.ownBlock = v.ownBlock ∨ ∀ q, v'.ownBlock = some q → w.heap.size ≤ q) := by
  have hsm : Sm (l ++ m) := Pol.co_lt_of fun z hz => by
    rcases List.mem_append.1 hz with h | h
    · exact hown.1.mem z h
    · exact hr.1.mem z h
  obtain ⟨hs, h | h⟩ := hown
  · obtain ⟨v', w', h1, h2, h3, h4⟩ := run_append_rd w base ty v l m h A c hr (by omega) hbase
    refine ⟨v', w', h1, h2.fst hsm, h3, h4.imp id fun e q hq => ?_⟩
    rw [e] at hq
    injection hq with hq
    omega
  · rcases Nat.eq_zero_or_pos m.length with h0 | h0
    · have : m = [] := List.eq_nil_of_length_eq_zero h0
      subst this
      obtain ⟨i0, hi, hz0, hz1, hz2⟩ := info_parts u8_info
      have h' := h
      obtain ⟨g, cur, rfl, _⟩ := h'
      refine ⟨_, w, ?_, by rw [List.append_nil]; exact ⟨hs, .inr h⟩, ⟨rfl, rfl, rfl, Nat.le_refl _, fun _ _ _ => rfl⟩, .inl rfl⟩
      cases A <;> simp [Builtin.append_, run_underlying Try.underlying22, sizeOf, typeInfo, hi, Builtin.lenOf, Builtin.firstCells, storeCells, loadCells, loadCellsFrom]
    · obtain ⟨g, rfl, hb, hg, hrg, _⟩ := h.slice hs
      obtain ⟨b, o, rfl, _⟩ := hr.addr h0
      obtain ⟨v', w', h1, h2, h3⟩ := run_append_full9 w ty g 0 l.length c l m rfl hrg ⟨b, o, none⟩ hr h0 hlen
      exact ⟨v', w', h1, (h2.down hbase).fst hsm, h3.grown _, .inr fun q hq => (h2.block q hq).1⟩
/-- At the operation, for the walk. -/
theorem wpList_append_fst {ops : Array Oper} {rest : List Oper} {o : Oper} {a : Act} {w : World} {Q : Exit → Act → World → Prop} (hgd : o.guard = none) (s x : Operand)
    (ho : o.op = .call { callee := .builtin .append, args := #[s, x], argTypes := #[22, 22] })
    (base : Nat) (v : Value) (l m : List Nat) (hs : a.eval s = v) (hown : Fst w base v l) (A : Option Addr) (n c : Nat) (hx : a.eval x = .slice A n c) (hn : m.length = n) (hr : Rd w A m)
    (hlen : l.length + m.length ≤ 1099511627776) (hbase : base ≤ w.heap.size)
    (h : ∀ v' w', Fst w' base v' (l ++ m) → w.grownBy w' v.ownBlock → (v'.ownBlock = v.ownBlock ∨ ∀ q, v'.ownBlock = some q → w.heap.size ≤ q) → wpList Try.prog ops Q rest (a.put o.dst v') w') :
    wpList Try.prog ops Q (o :: rest) a w := by
  subst hn
  refine wpList_plain hgd fun K hK => ?_
  obtain ⟨v', w', hrun, h2, h3, h4⟩ := run_append_fst w base o.type v l m hown A c hr hlen hbase
  unfold Oper.wp execOp
  simp only [ho, resolve, invoke, builtin, Sem.run_bind, Sem.run_pure, Result.andThen_ok, List.map_toArray, List.map_cons, List.map_nil, hs, hx, hrun]
  exact hK _ _ (h v' w' h2 h3 h4)
end Go.Proofs.Ytfbnckecfapakaa

/-
  A region that draws its order, by an invariant: what holds of the listed operations, whichever they are, is kept by each operation that may come up next. Conditions: each operation waits for operations ahead of it in the text alone; of no program in particular.
-/
namespace Go.Proofs.Ytfbnckecfapakaa
open Go

section
variable {P : Program} {ops : Array Oper} {Q : Exit → Act → World → Prop}

theorem Oper.wp_then {o : Oper} {a : Act} {w : World} {K K' : Act → World → Prop} (h : ∀ a w, K' a w → K a w) (hh : o.wp P a w K' (Exit.then K Q)) : o.wp P a w K Q := by
  unfold Oper.wp at *
  generalize (execOp a.eval o).run P w = r at *
  cases r with
  | ok n w' =>
    cases n <;> simp only [Oper.upon] at hh ⊢ <;>
      first
        | exact h _ _ hh
        | exact Calls.mono hh (fun e w'' he => by cases e <;> first | exact h _ _ he | exact he)
        | exact Rows.mono hh (fun _ _ he => h _ _ he)
  | halt x w' => cases x <;> simp only [Oper.upon] at hh ⊢ <;> exact hh
theorem wpOp_of_one {i : Nat} {o : Oper} {a : Act} {w : World} {K : Act → World → Prop} (hi : ops[i]? = some o) (h : wpList P ops (Exit.then K Q) [o] a w) : wpOp P ops Q i K a w := by
  unfold wpOp
  rw [hi]
  simp only
  unfold wpList at h
  split
  · rename_i hw
    rw [if_pos hw] at h
    rcases h with h | h
    · exact .inl (Oper.wp_then (fun a w h => by unfold wpList at h; exact h) h)
    · exact .inr h
  · rename_i hw
    rw [if_neg hw] at h
    unfold wpList at h
    exact h
def depsB (l : List Oper) : Bool := (List.range l.length).all fun i => match l[i]? with | some o => o.after.all (fun e => decide (e.on < i)) | none => true
theorem depsB_spec {l : List Oper} (h : depsB l = true) {i : Nat} {o : Oper} (hi : l[i]? = some o) : ∀ e ∈ o.after, e.on < i := by
  have hlt : i < l.length := (List.getElem?_eq_some_iff.1 hi).1
  have h1 := List.all_eq_true.1 h i (List.mem_range.2 hlt)
  rw [hi] at h1
  intro e he
  have h2 := (Array.all_eq_true_iff_forall_mem.1 h1) e he
  simpa using h2
theorem getD_true_of {L : Array Bool} {k : Nat} (h : L.getD k false = true) : L.getD k true = true := by
  rw [Array.getD_eq_getD_getElem?] at h ⊢
  cases hk : L[k]? with
  | none => rfl
  | some b => rw [hk] at h; exact h
theorem getD_false_of {L : Array Bool} {k : Nat} (hk : k < L.size) (h : L.getD k true = true) : L.getD k false = true := by
  rw [Array.getD_eq_getD_getElem?] at h ⊢
  rw [Array.getElem?_eq_getElem hk] at h ⊢
  exact h
theorem getD_listed (L : Array Bool) (i j : Nat) : (L.setIfInBounds i true).getD j true = (j == i || L.getD j true) := by
  by_cases e : j = i
  · subst e
    rw [Array.getD_eq_getD_getElem?, Array.getElem?_setIfInBounds_self]
    split <;> simp
  · rw [getD_set_ne true (fun h => e h.symm), show (j == i) = false from beq_eq_false_iff_ne.2 e, Bool.false_or]

theorem wpAny_inv {l : List Oper} (I : (Nat → Bool) → Act → World → Prop) (hB : depsB l = true)
    (hs : ∀ i o, l[i]? = some o → ∀ L a w, I L a w → L i = false → (∀ e ∈ o.after, Region.binds .any e = true → L e.on = true) → wpList P l.toArray (Exit.then (fun a' w' => I (fun j => j == i || L j) a' w') Q) [o] a w)
    (he : ∀ L a w, (∀ i, i < l.length → L i = true) → I L a w → Q .normal a w) :
    ∀ (f : Nat) (L : Array Bool) (a : Act) (w : World) (U : List Nat), L.size = l.length → U.length = f → (∀ i, L.getD i true = false → i ∈ U) → I (fun i => L.getD i true) a w → wpAny P .any l.toArray Q f L a w := by
  have hall : ∀ L : Array Bool, L.size = l.length → Region.ready .any l.toArray L = [] → ∀ i, i < l.length → L.getD i true = true := fun L hsz hr i => by
    induction i using Nat.strongRecOn with
    | _ i ih =>
      intro hi
      cases hb : L.getD i true with
      | true => rfl
      | false =>
        have hoi : l.toArray[i]? = some l[i] := by simp [hi]
        have hm : i ∈ Region.ready .any l.toArray L := mem_ready.2 ⟨hb, _, hoi, fun e hee _ => by
          have hlt := depsB_spec hB (i := i) (o := l[i]) (by simp [hi]) e hee
          exact getD_false_of (by omega) (ih e.on hlt (by omega))⟩
        rw [hr] at hm
        cases hm
  intro f
  induction f with
  | zero =>
    intro L a w U hsz hU hin hI
    have hU0 : U = [] := List.eq_nil_of_length_eq_zero hU
    subst hU0
    have hL : ∀ i, L.getD i true = true := fun i => by
      cases hb : L.getD i true with
      | true => rfl
      | false => exact absurd (hin i hb) (by simp)
    refine ⟨?_, he _ a w (fun i _ => hL i) hI⟩
    rcases hr : Region.ready .any l.toArray L with _ | ⟨i, r⟩
    · rfl
    · have hm : i ∈ Region.ready .any l.toArray L := by rw [hr]; simp
      have := (mem_ready.1 hm).1
      rw [hL i] at this
      cases this
  | succ f ih =>
    intro L a w U hsz hU hin hI
    refine ⟨fun hr => he _ a w (hall L hsz hr) hI, fun i hi => ?_⟩
    obtain ⟨hun, o, ho, haft⟩ := mem_ready.1 hi
    have ho' : l[i]? = some o := by simpa using ho
    have h1 := hs i o ho' _ a w hI hun (fun e hee hb => getD_true_of (haft e hee hb))
    have hU' : (U.erase i).length = f := by rw [List.length_erase_of_mem (hin i hun)]; omega
    refine wpOp_mono (fun a' w' hI' => ?_) (wpOp_of_one ho h1)
    refine ih _ a' w' (U.erase i) (by simpa using hsz) hU' (fun j hj => ?_) ?_
    · rw [getD_listed, Bool.or_eq_false_iff] at hj
      exact (List.mem_erase_of_ne (by simpa using hj.1)).2 (hin j hj.2)
    · simp only [getD_listed]
      exact hI'
theorem wp_region_inv {id : Nat} {a : Act} {w : World} {l : List Oper} (I : (Nat → Bool) → Act → World → Prop) (hm : P.follows .mixedOrders = true) (hB : depsB l = true) (h0 : I (fun i => !decide (i < l.length)) a w.drew)
    (hs : ∀ i o, l[i]? = some o → ∀ L a w, I L a w → L i = false → (∀ e ∈ o.after, Region.binds .any e = true → L e.on = true) → wpList P l.toArray (Exit.then (fun a' w' => I (fun j => j == i || L j) a' w') Q) [o] a w)
    (he : ∀ L a w, (∀ i, i < l.length → L i = true) → I L a w → wpList P l.toArray Q [] a w) : (Code.region id l.toArray true).wp P Q a w := by
  have e0 : (fun i => (Array.replicate l.toArray.size false).getD i true) = fun i => !decide (i < l.length) := by
    funext i
    rw [Array.getD_eq_getD_getElem?, Array.getElem?_replicate]
    by_cases h : i < l.length <;> simp [h]
  refine wp_region_any hm ?_
  refine wpAny_inv I hB hs he l.toArray.size _ a _ (List.range l.length) (by simp) (by simp) (fun i hi => ?_) (by rw [e0]; exact h0)
  have h1 := congrFun e0 i
  rw [hi] at h1
  exact List.mem_range.2 (by simpa using h1.symm)
end
end Go.Proofs.Ytfbnckecfapakaa

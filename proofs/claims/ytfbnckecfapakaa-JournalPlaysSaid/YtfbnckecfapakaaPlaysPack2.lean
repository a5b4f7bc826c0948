/-
  Part 2 of the texts that the seat's proofs stand on; each part of it begins with its own sentence and conditions. Conditions: those that each theorem names.
-/
import Derived.Test.YtfbnckecfapakaaPlaysPack1
import Derived.ArgAppend
import Derived.Orders
import Derived.StillTail

/-
  Slices of slices of bytes that read as a list of rows: what it means, that it stays while only new blocks are laid, and what append does with such slices of a call's own. Conditions: the lengths add up to no more than 2^40.
-/
namespace Go.Proofs.Ytfbnckecfapakaa
open Go.RowKit
open Pol (co Sm)

/-- A row. -/
def ro (rows : List (List Nat)) (i : Nat) : List Nat := rows[i]?.getD []
theorem ro_append_left (a b : List (List Nat)) (i : Nat) (h : i < a.length) : ro (a ++ b) i = ro a i := by unfold ro; rw [List.getElem?_append_left h]
theorem ro_append_right (a b : List (List Nat)) (i : Nat) (h : a.length ≤ i) : ro (a ++ b) i = ro b (i - a.length) := by unfold ro; rw [List.getElem?_append_right h]
theorem ro_mem {rows : List (List Nat)} {r : List Nat} (h : r ∈ rows) : ∃ i, i < rows.length ∧ ro rows i = r := by
  obtain ⟨i, hi, e⟩ := List.mem_iff_getElem.1 h
  exact ⟨i, hi, by unfold ro; rw [List.getElem?_eq_getElem hi]; exact e⟩
theorem ro_in (rows : List (List Nat)) (i : Nat) (h : i < rows.length) : ro rows i ∈ rows := by
  unfold ro
  rw [List.getElem?_eq_getElem h]
  exact List.getElem_mem h
theorem ro_ext {a b : List (List Nat)} (hl : a.length = b.length) (h : ∀ i, i < a.length → ro a i = ro b i) : a = b := by
  apply List.ext_getElem hl
  intro i h1 h2
  have := h i h1
  unfold ro at this
  rw [List.getElem?_eq_getElem h1, List.getElem?_eq_getElem h2] at this
  exact this
/-- From address A on lie the rows. -/
def RRd (w : World) (A : Option Addr) (rows : List (List Nat)) : Prop :=
  ∀ i, i < rows.length → ∃ b o B c, A = some ⟨b, o, none⟩ ∧ w.cell? ⟨b, o + i, none⟩ = some (.slice B (ro rows i).length c) ∧ (ro rows i).length ≤ c ∧ Rd w B (ro rows i)
theorem RRd.ext {w w' : World} {A : Option Addr} {rows : List (List Nat)} (h : RRd w A rows) (hx : Ext w w') : RRd w' A rows := fun i hi => by
  obtain ⟨b, o, B, c, e, hc, hl, hr⟩ := h i hi
  exact ⟨b, o, B, c, e, (hx.below.cell (p := ⟨b, o + i, none⟩) (block_lt_of_cell hc)).trans hc, hl, hr.ext hx⟩
theorem RRd.nil (w : World) (A : Option Addr) : RRd w A [] := fun i hi => absurd hi (by simp)
theorem RRd.sm {w : World} {A : Option Addr} {rows : List (List Nat)} (h : RRd w A rows) : ∀ r ∈ rows, Sm r := fun r hr => by
  obtain ⟨i, hi, rfl⟩ := ro_mem hr
  obtain ⟨_, _, _, _, _, _, _, hrd⟩ := h i hi
  exact hrd.1
/-- Values that are slices of these rows. -/
def RowsV (w : World) (vs : List Value) (rows : List (List Nat)) : Prop := vs.length = rows.length ∧ ∀ i, i < rows.length → ∃ B c, vs[i]? = some (.slice B (ro rows i).length c) ∧ (ro rows i).length ≤ c ∧ Rd w B (ro rows i)
/-- None of them lies in a block. -/
def Far (vs : List Value) (row : Option Nat) : Prop := ∀ (i : Nat) (b o n c : Nat), vs[i]? = some (.slice (some ⟨b, o, none⟩) n c) → 0 < n → some b ≠ row
theorem RowsV.keep {w w' : World} {vs : List Value} {rows : List (List Nat)} {row : Option Nat} (h : RowsV w vs rows) (hg : w.grownBy w' row) (hf : Far vs row) : RowsV w' vs rows :=
  ⟨h.1, fun i hi => by
    obtain ⟨B, c, hv, hl, hr⟩ := h.2 i hi
    refine ⟨B, c, hv, hl, hr.1, fun j hj => ?_⟩
    obtain ⟨b, o, e, hc⟩ := hr.2 j hj
    exact ⟨b, o, e, hg.cell hc (hf i b o _ c (by rw [hv, e]) (by omega))⟩⟩
theorem RowsV.ext {w w' : World} {vs : List Value} {rows : List (List Nat)} (h : RowsV w vs rows) (hx : Ext w w') : RowsV w' vs rows :=
  ⟨h.1, fun i hi => by
    obtain ⟨B, c, hv, hl, hr⟩ := h.2 i hi
    exact ⟨B, c, hv, hl, hr.ext hx⟩⟩
theorem RowsV.append {w : World} {vs us : List Value} {rows more : List (List Nat)} (h : RowsV w vs rows) (k : RowsV w us more) : RowsV w (vs ++ us) (rows ++ more) :=
  ⟨by rw [List.length_append, List.length_append, h.1, k.1], fun i hi => by
    rw [List.length_append] at hi
    by_cases hl : i < rows.length
    · rw [ro_append_left _ _ _ hl, List.getElem?_append_left (by rw [h.1]; exact hl)]
      exact h.2 i hl
    · rw [ro_append_right _ _ _ (by omega), List.getElem?_append_right (by rw [h.1]; omega), h.1]
      exact k.2 (i - rows.length) (by omega)⟩
theorem RowsV.lt {w : World} {vs : List Value} {rows : List (List Nat)} (h : RowsV w vs rows) {i b o n c : Nat} (hi : vs[i]? = some (.slice (some ⟨b, o, none⟩) n c)) (hn : 0 < n) : b < w.heap.size := by
  have hil : i < rows.length := by rw [← h.1]; exact (List.getElem?_eq_some_iff.1 hi).1
  obtain ⟨B, c', hv, hl, hr⟩ := h.2 i hil
  rw [hv] at hi
  injection hi with hi
  injection hi with e1 e2 e3
  subst e2
  obtain ⟨b', o', e, hc⟩ := hr.2 0 hn
  rw [e] at e1
  injection e1 with e1
  injection e1 with e1 _
  rw [← e1]
  exact block_lt_of_cell hc
theorem RowsV.one {w : World} {vs : List Value} {rows : List (List Nat)} (h : RowsV w vs rows) : ∀ u ∈ vs, u.oneCell' = true := fun u hu => by
  obtain ⟨i, hi, e⟩ := List.mem_iff_getElem.1 hu
  obtain ⟨B, c, hv, _⟩ := h.2 i (by rw [← h.1]; exact hi)
  rw [List.getElem?_eq_getElem hi, e] at hv
  injection hv with hv
  rw [hv]
  rfl
theorem RRd.vals {w : World} {A : Option Addr} {rows : List (List Nat)} (h : RRd w A rows) : ∃ vs, RowsV w vs rows ∧ ∀ j u, vs[j]? = some u → ∃ b o, A = some ⟨b, o, none⟩ ∧ w.cell? ⟨b, o + j, none⟩ = some u := by
  rcases Nat.eq_zero_or_pos rows.length with h0 | h0
  · have : rows = [] := List.eq_nil_of_length_eq_zero h0
    subst this
    exact ⟨[], ⟨rfl, fun i hi => absurd hi (by simp)⟩, fun j u hj => by simp at hj⟩
  · obtain ⟨b, o, _, _, rfl, _⟩ := h 0 h0
    have hat : ∀ i, i < rows.length → ∃ B c, w.cell? ⟨b, o + i, none⟩ = some (.slice B (ro rows i).length c) ∧ (ro rows i).length ≤ c ∧ Rd w B (ro rows i) := fun i hi => by
      obtain ⟨b', o', B, c, e, hc, hl, hr⟩ := h i hi
      injection e with e
      injection e with e1 e2
      subst e1; subst e2
      exact ⟨B, c, hc, hl, hr⟩
    have hget : ∀ j, j < rows.length → ((List.range rows.length).map fun i => (w.cell? ⟨b, o + i, none⟩).getD undef)[j]? = some ((w.cell? ⟨b, o + j, none⟩).getD undef) := fun j hj => by
      rw [List.getElem?_map, List.getElem?_range hj]; rfl
    refine ⟨(List.range rows.length).map fun i => (w.cell? ⟨b, o + i, none⟩).getD undef, ⟨by simp, fun i hi => ?_⟩, fun j u hj => ⟨b, o, rfl, ?_⟩⟩
    · obtain ⟨B, c, hc, hl, hr⟩ := hat i hi
      exact ⟨B, c, by rw [hget i hi, hc]; rfl, hl, hr⟩
    · have hjl : j < rows.length := by
        have := (List.getElem?_eq_some_iff.1 hj).1
        simpa using this
      obtain ⟨B, c, hc, _⟩ := hat j hjl
      rw [hget j hjl, hc] at hj
      rw [hc]
      exact hj

theorem row_info : (Try.prog.info? 22).map (fun i => (i.zero, i.size, i.bytes)) = some (some (.slice none 0 0), 1, 24) := by kernel_rfl
/-- A slice of the call's own, of rows. -/
structure MineR (w : World) (base : Nat) (v : Value) (rows : List (List Nat)) : Prop where
  has : ∃ vs, w.ownsRow base 22 1 v rows.length vs ∧ RowsV w vs rows ∧ Far vs v.ownBlock
theorem MineR.nil (w : World) (base : Nat) : MineR w base (.slice none 0 0) [] := ⟨[], World.ownsRow_nil w base _ _, ⟨rfl, fun i hi => absurd hi (by simp)⟩, fun i b o n c h => by simp at h⟩
theorem mineR_empty (w : World) : MineR (w.alloc (.cells #[] 22)) w.heap.size (.slice (some ⟨w.heap.size, 0, none⟩) 0 0) [] :=
  ⟨[], World.ownsRow_lit w #[] 0 (Nat.le_refl _) (Nat.zero_le _) rfl, ⟨rfl, fun i hi => absurd hi (by simp)⟩, fun i b o n c h => by simp at h⟩
theorem MineR.slice {w : World} {base : Nat} {v : Value} {rows : List (List Nat)} (h : MineR w base v rows) : ∃ A c, v = .slice A rows.length c ∧ rows.length ≤ c ∧ RRd w A rows := by
  obtain ⟨vs, hown, hv, _⟩ := h.has
  rcases hown.2 with ⟨rfl, hn⟩ | ⟨g, cap, cur, rfl, _, hg, hnc, _, _, htake⟩
  · have : rows = [] := List.eq_nil_of_length_eq_zero hn
    subst this
    exact ⟨none, 0, rfl, Nat.le_refl _, RRd.nil _ _⟩
  · refine ⟨_, cap, rfl, hnc, fun i hi => ?_⟩
    obtain ⟨B, c, h1, h2, h3⟩ := hv.2 i hi
    refine ⟨g, 0, B, c, rfl, ?_, h2, h3⟩
    rw [Nat.zero_add, cell_of_row w g i cur _ _ hg, ← h1, ← htake, List.getElem?_take, if_pos (by omega)]
    simp
theorem MineR.block {w : World} {base : Nat} {v : Value} {rows : List (List Nat)} (h : MineR w base v rows) : ∀ k, v.ownBlock = some k → base ≤ k ∧ k < w.heap.size := fun k hk => by
  obtain ⟨vs, hown, _⟩ := h.has
  exact World.ownsRow.lt hown k hk
theorem MineR.ext {w w' : World} {base : Nat} {v : Value} {rows : List (List Nat)} (h : MineR w base v rows) (hx : Ext w w') : MineR w' base v rows := by
  obtain ⟨vs, hown, hv, hf⟩ := h.has
  refine ⟨vs, World.ownsRow.kept hown (row := none) ⟨hx.below.os, hx.below.tape, hx.below.output, hx.below.size, fun k hk _ => hx.below.block k hk⟩ (by
    cases hb : v.ownBlock with
    | none => exact .inl rfl
    | some k => exact .inr (by simp)), hv.ext hx, hf⟩
set_option maxRecDepth 100000 in
/-- Behind a write into another block of the call's own. -/
theorem run_append_rows (w : World) (base : Nat) (ty : TypeId) (v : Value) (rows more : List (List Nat)) (hown : MineR w base v rows) (A : Option Addr) (c : Nat) (hr : RRd w A more)
    (hfar : ∀ i, i < more.length → ∀ b o n c, (∃ b' o', A = some ⟨b', o', none⟩ ∧ w.cell? ⟨b', o' + i, none⟩ = some (.slice (some ⟨b, o, none⟩) n c)) → 0 < n → some b ≠ v.ownBlock)
    (hlen : rows.length + more.length ≤ 1048576) (hbase : base ≤ w.heap.size) :
    ∃ v' w', (Builtin.append_ #[35, 35] ty #[v, .slice A more.length c]).run Try.prog w = .ok v' w' ∧ MineR w' base v' (rows ++ more) ∧ w.grownBy w' v.ownBlock ∧ (v'.ownBlock = v.ownBlock ∨ v'.ownBlock = some w.heap.size) := by
  obtain ⟨i0, hi, hz0, hz1, hz2⟩ := info_parts row_info
  obtain ⟨vs, hv1, hv2, hv3⟩ := hown.has
  obtain ⟨us, hu1, hu2⟩ := hr.vals
  cases A with
  | none =>
    have hm : more = [] := by
      rcases Nat.eq_zero_or_pos more.length with h | h
      · exact List.eq_nil_of_length_eq_zero h
      · obtain ⟨_, _, _, _, e, _⟩ := hr 0 h; cases e
    subst hm
    refine ⟨v, w, ?_, by simpa using hown, ⟨rfl, rfl, rfl, Nat.le_refl _, fun _ _ _ => rfl⟩, .inl rfl⟩
    rcases hv1.2 with ⟨rfl, _⟩ | ⟨g, cap, cur, rfl, _, _, hnc, _⟩
    · simp [Builtin.append_, run_underlying Try.underlying35, sizeOf, typeInfo, hi, Builtin.lenOf, Builtin.firstCells]
    · simp [Builtin.append_, run_underlying Try.underlying35, sizeOf, typeInfo, hi, Builtin.lenOf, Builtin.firstCells, hnc, storeCells]
  | some a =>
    have hcells : ∀ j u, us[j]? = some u → w.cell? (a.add j) = some u := by
      intro j u hu
      obtain ⟨b, o, e, hc⟩ := hu2 j u hu
      injection e with e
      subst e
      rw [addr_add]
      exact hc
    obtain ⟨v', w', h1, h2, h3, _, h5⟩ := run_append_own_at (P := Try.prog) w base 35 ty 22 i0 (.slice none 0 0) 1 24 Try.underlying35 hi hz0 hz1 hz2 rfl (by omega) v rows.length vs hv1 a more.length c us (by rw [hu1.1, Nat.mul_one]) hcells hu1.one
      (by unfold maxLen; omega) (by omega) hbase
    have hfu : Far us v.ownBlock := fun i b o n c' hu hn => by
      obtain ⟨b', o', e, hc⟩ := hu2 i _ hu
      exact hfar i (by rw [← hu1.1]; exact (List.getElem?_eq_some_iff.1 hu).1) b o n c' ⟨b', o', e, hc⟩ hn
    refine ⟨v', w', h1, ⟨vs ++ us, by rw [List.length_append]; exact h2, (hv2.append hu1).keep h3 ?_, ?_⟩, h3, h5⟩
    · intro i b o n c' hx hn
      by_cases hl : i < vs.length
      · rw [List.getElem?_append_left hl] at hx
        exact hv3 i b o n c' hx hn
      · rw [List.getElem?_append_right (by omega)] at hx
        exact hfu _ b o n c' hx hn
    · intro i b o n c' hx hn
      rcases h5 with e | e
      · rw [e]
        by_cases hl : i < vs.length
        · rw [List.getElem?_append_left hl] at hx
          exact hv3 i b o n c' hx hn
        · rw [List.getElem?_append_right (by omega)] at hx
          exact hfu _ b o n c' hx hn
      · rw [e]
        have hb : b < w.heap.size := (hv2.append hu1).lt hx hn
        exact fun e' => by injection e' with e'; omega
/-- At the operation, for the walk. -/
theorem wpList_append_rows {ops : Array Oper} {rest : List Oper} {o : Oper} {a : Act} {w : World} {Q : Exit → Act → World → Prop} (hgd : o.guard = none) (s x : Operand)
    (ho : o.op = .call { callee := .builtin .append, args := #[s, x], argTypes := #[35, 35] })
    (base : Nat) (v : Value) (rows more : List (List Nat)) (hs : a.eval s = v) (hown : MineR w base v rows) (A : Option Addr) (n c : Nat) (hx : a.eval x = .slice A n c) (hn : more.length = n) (hr : RRd w A more)
    (hfar : ∀ i, i < more.length → ∀ b o n c, (∃ b' o', A = some ⟨b', o', none⟩ ∧ w.cell? ⟨b', o' + i, none⟩ = some (.slice (some ⟨b, o, none⟩) n c)) → 0 < n → some b ≠ v.ownBlock)
    (hlen : rows.length + more.length ≤ 1048576) (hbase : base ≤ w.heap.size)
    (h : ∀ v' w', MineR w' base v' (rows ++ more) → w.grownBy w' v.ownBlock → (v'.ownBlock = v.ownBlock ∨ v'.ownBlock = some w.heap.size) → wpList Try.prog ops Q rest (a.put o.dst v') w') :
    wpList Try.prog ops Q (o :: rest) a w := by
  subst hn
  refine wpList_plain hgd fun K hK => ?_
  obtain ⟨v', w', hrun, h2, h3, h4⟩ := run_append_rows w base o.type v rows more hown A c hr hfar hlen hbase
  unfold Oper.wp execOp
  simp only [ho, resolve, invoke, builtin, Sem.run_bind, Sem.run_pure, Result.andThen_ok, List.map_toArray, List.map_cons, List.map_nil, hs, hx, hrun]
  exact hK _ _ (h v' w' h2 h3 h4)
end Go.Proofs.Ytfbnckecfapakaa

/-
  Literals of rows, and rows that lie in newer blocks than another one. Conditions: none.
-/
namespace Go.Proofs.Ytfbnckecfapakaa
open Go.RowKit
open Pol (co Sm)

theorem rrd_lit (w : World) (vs : List Value) (rows : List (List Nat)) (h : RowsV w vs rows) : RRd (w.alloc (.cells vs.toArray 22)) (some ⟨w.heap.size, 0, none⟩) rows := fun i hi => by
  obtain ⟨B, c, hv, hl, hr⟩ := h.2 i hi
  refine ⟨w.heap.size, 0, B, c, rfl, ?_, hl, hr.ext ((Ext.refl _).alloc _)⟩
  rw [cell_of_row _ _ _ _ _ _ (heap_alloc_new w _), Nat.zero_add]
  simpa using hv
theorem rowsV_one {w : World} {v : Value} {l : List Nat} (h : Sl w v l) : RowsV w [v] [l] := ⟨rfl, fun i hi => by
  match i, hi with
  | 0, _ =>
    obtain ⟨B, c, rfl, hc, hr⟩ := h
    exact ⟨B, c, rfl, hc, hr⟩⟩
theorem take_ro (rows : List (List Nat)) (k : Nat) (h : k < rows.length) : rows.take (k + 1) = rows.take k ++ [ro rows k] := by
  rw [List.take_succ_eq_append_getElem h]
  unfold ro
  rw [List.getElem?_eq_getElem h]
  rfl
/-- A literal of one row, whose bytes lie in a block that is new: it lies in no elder block. -/
theorem far_one {w : World} {v : Value} {l : List Nat} {base : Nat} (hm : Mine w base v l) (row : Option Nat) (hrow : ∀ k, row = some k → k < base) (g : Nat) (hg : g = w.heap.size) :
    ∀ i, i < [l].length → ∀ b o n c, (∃ b' o', (some ⟨g, 0, none⟩ : Option Addr) = some ⟨b', o', none⟩ ∧ (w.alloc (.cells #[v] 22)).cell? ⟨b', o' + i, none⟩ = some (.slice (some ⟨b, o, none⟩) n c)) → 0 < n → some b ≠ row := by
  rintro i hi b o n c ⟨b', o', e, hc⟩ hn e'
  subst hg
  injection e with e
  injection e with e1 e2
  subst e1; subst e2
  have hi0 : i = 0 := by simpa using hi
  subst hi0
  rw [cell_of_row _ _ _ _ _ _ (heap_alloc_new w _)] at hc
  have hv : v = .slice (some ⟨b, o, none⟩) n c := by simpa using hc
  have hb := World.ownsRow.lt hm b (by rw [hv]; rfl)
  have := hrow b e'.symm
  omega
end Go.Proofs.Ytfbnckecfapakaa

/-
  Bytes in a block of a call's own, that are changed one by one; what stays while other blocks are written. Conditions: none.
-/
namespace Go.Proofs.Ytfbnckecfapakaa
open Go.RowKit
open Pol (co Sm trim)

/-- The first n cells of block g are the bytes F, and may be written. -/
def Cells (w : World) (g n : Nat) (F : Nat → Nat) : Prop := ∀ i, i < n → w.cell? ⟨g, i, none⟩ = some (.int .u8 ((F i : Nat) : Int)) ∧ w.frozen? ⟨g, i, none⟩ = false
theorem Blk.cells {w : World} {g n : Nat} {F : Nat → Nat} (h : Blk w g n F) : Cells w g n F := fun i hi => ⟨h.cell i hi, h.frozen i⟩
theorem Cells.drewN {w : World} {g n : Nat} {F : Nat → Nat} (h : Cells w g n F) (k : Nat) : Cells (w.drewN k) g n F := h
theorem Cells.congr {w : World} {g n : Nat} {F F' : Nat → Nat} (h : Cells w g n F) (hf : ∀ i, i < n → F i = F' i) : Cells w g n F' := fun i hi => ⟨by rw [(h i hi).1, hf i hi], (h i hi).2⟩
theorem Cells.store {w : World} {g n : Nat} {F : Nat → Nat} (h : Cells w g n F) (k v : Nat) : Cells (w.setCell ⟨g, k, none⟩ (.int .u8 (v : Int))) g n (upd F k v) := fun i hi => by
  refine ⟨?_, by rw [World.frozen?_setCell]; exact (h i hi).2⟩
  unfold upd
  by_cases e : i = k
  · subst e
    rw [if_pos rfl]
    exact World.cell?_setCell_same' _ _ _ (by rw [(h i hi).1]; rfl)
  · rw [if_neg e, World.cell?_setCell_other _ _ _ _ (fun h => e (by cases h; rfl))]
    exact (h i hi).1
theorem Cells.keep {w w' : World} {g n : Nat} {F : Nat → Nat} {row : Option Nat} (h : Cells w g n F) (hg : w.grownBy w' row) (hne : some g ≠ row) : Cells w' g n F := fun i hi =>
  ⟨hg.cell (h i hi).1 hne, (World.frozen?_of_block (a := ⟨g, i, none⟩) (hg.block g (block_lt_of_cell (h i hi).1) hne)).trans (h i hi).2⟩
theorem Cells.ext {w w' : World} {g n : Nat} {F : Nat → Nat} (h : Cells w g n F) (hx : Ext w w') : Cells w' g n F := fun i hi =>
  ⟨(hx.below.cell (p := ⟨g, i, none⟩) (block_lt_of_cell (h i hi).1)).trans (h i hi).1, (hx.below.frozen (p := ⟨g, i, none⟩) (block_lt_of_cell (h i hi).1)).trans (h i hi).2⟩
theorem Cells.reads {w : World} {g n : Nat} {F : Nat → Nat} (h : Cells w g n F) (hs : ∀ i, i < n → F i < 256) : Rd w (some ⟨g, 0, none⟩) (tab n F) :=
  ⟨tab_sm n F hs, fun i hi => ⟨g, 0, rfl, by
    rw [tab_len] at hi
    rw [Nat.zero_add, (h i hi).1, co_tab, if_pos hi]⟩⟩
theorem Rd.keep {w w' : World} {A : Option Addr} {l : List Nat} {row : Option Nat} (h : Rd w A l) (hg : w.grownBy w' row) (hne : ∀ b o, A = some ⟨b, o, none⟩ → 0 < l.length → some b ≠ row) : Rd w' A l :=
  ⟨h.1, fun i hi => by
    obtain ⟨b, o, e, hc⟩ := h.2 i hi
    exact ⟨b, o, e, hg.cell hc (hne b o e (by omega))⟩⟩
theorem grown_set (w : World) (g o : Nat) (v : Value) : w.grownBy (w.setCell ⟨g, o, none⟩ v) (some g) :=
  ⟨rfl, rfl, rfl, by simp [World.setCell], fun k _ hk => Below.heap_setCell _ _ _ k (fun e => hk (by rw [e]))⟩
theorem grown_drewN (w : World) (n : Nat) (row : Option Nat) : w.grownBy (w.drewN n) row := ⟨rfl, rfl, rfl, Nat.le_refl _, fun _ _ _ => rfl⟩
theorem Ext.grown {w w' : World} (h : Ext w w') (row : Option Nat) : w.grownBy w' row := ⟨h.below.os, h.below.tape, h.below.output, h.below.size, fun k hk _ => h.below.block k hk⟩

/-- s[l:] of bytes, where the capacity goes on. -/
theorem run_from_u8 (g o len cap l : Nat) (h : l ≤ len) (hc : l < cap) (W : World) :
    (Instr.slice 22 (.slice (some ⟨g, o, none⟩) len cap) (some (.int .i64 (l : Int))) none none).run Try.prog W = .ok (.slice (some ⟨g, o + l, none⟩) (len - l) (cap - l)) W := by
  obtain ⟨i0, hi, hz0, hz1, hz2⟩ := info_parts u8_info
  have he : Try.prog.elem 22 = 5 := by kernel_rfl
  rw [run_slice_l W 22 _ len cap (by rw [he]; exact Try.underlying22) .i64 (l : Int) (by omega) (by omega), he]
  simp [sizeOf, typeInfo, hi, hz1, Result.andThen, sliced, addr_add]
  omega

/-- A slice of the call's own, as cells that may be written. -/
theorem Mine.cells {w : World} {base : Nat} {v : Value} {l : List Nat} (hm : Mine w base v l) : ∃ A c g, v = .slice A l.length c ∧ l.length ≤ c ∧ (0 < l.length → A = some ⟨g, 0, none⟩ ∧ base ≤ g) ∧ Cells w g l.length (co l) := by
  rcases hm.2 with ⟨rfl, hn⟩ | ⟨g, cap, cur, rfl, hb, hg, hnc, _, _, htake⟩
  · have : l = [] := List.eq_nil_of_length_eq_zero hn
    subst this
    exact ⟨none, 0, 0, rfl, Nat.le_refl _, fun h => absurd h (by simp), fun i hi => absurd hi (by simp)⟩
  · refine ⟨_, cap, g, rfl, hnc, fun _ => ⟨rfl, hb⟩, fun i hi => ⟨?_, frozen_of_row w g i cur _ hg⟩⟩
    rw [cell_of_row w g i cur _ _ hg, ← bv_at l i hi, ← htake, List.getElem?_take, if_pos (by omega)]
    simp
end Go.Proofs.Ytfbnckecfapakaa

/-
  What the document's own All of layer 9 does. Conditions: no more than 2^16 bytes.
-/
namespace Go.Proofs.Ytfbnckecfapakaa
open Go.RowKit
open Pol (co Sm)

def AllR (b : List Nat) (w : World) (e : Ending) (w' : World) : Prop :=
  Ext w w' ∧ ∃ v, e = .returned (.tuple #[v, .int .i64 (((al b).2 : Nat) : Int)]) ∧ MineR w' w.heap.size v (al b).1
theorem tab_drop9 (l : List Nat) (k : Nat) (h : k ≤ l.length) : tab (l.length - k) (fun j => co l (k + j)) = l.drop k := by
  rw [tab_cut l k (l.length - k) (by omega), List.take_of_length_le (by rw [List.length_drop]; omega)]
theorem sm_drop {l : List Nat} (h : Sm l) (k : Nat) : Sm (l.drop k) := Pol.co_lt_of fun x hx => h.mem x (List.mem_of_mem_drop hx)
/-- One frame more. -/
theorem fr_drop {b t r : List Nat} {k : Nat} (h : b.drop k = fr t ++ r) : (b.drop (k + 6)).take t.length = t ∧ b.drop (k + 6 + t.length) = r ∧ (t ≠ [] ∨ True) := by
  have e6 : (fr t ++ r).drop 6 = t ++ r := by
    have h6 : (fr t).drop 6 = t := by
      unfold fr
      show (cbs (crcl t) ++ t).drop 4 = t
      rw [← cbs_len (crcl t), List.drop_left]
    rw [List.drop_append_of_le_length (by rw [fr_len]; omega), h6]
  have e1 : b.drop (k + 6) = t ++ r := by rw [← List.drop_drop, h, e6]
  refine ⟨by rw [e1, List.take_left], by rw [← List.drop_drop, e1, List.drop_left], .inr trivial⟩

set_option maxHeartbeats 1600000 in
set_option maxRecDepth 100000 in
theorem ref9_all (b : List Nat) (A : Option Addr) (ca : Nat) (w : World) (hr : Rd w A b) (hc : b.length ≤ ca) (hl : b.length ≤ 65536) :
    Calls Try.prog 32 #[.slice A b.length ca] w (AllR b w) := by
  unfold AllR
  have HR := Lib.hid hr
  obtain ⟨L, hL⟩ : ∃ L, b.length = L := ⟨_, rfl⟩
  have HL := Lib.hid hL
  rw [hL] at hc hl ⊢
  have HNX := Lib.hid (fun (l : List Nat) X cx W (h : Rd W X l) hc hl => ref9_next l X cx W h hc hl)
  clear hr hL
  go_enter Try.func32, Try.ntmps32
  go_wp2
  go_loopg [4, 5] L (fun g s4 s5 wx => ∃ (k : Nat) (done : List (List Nat)), k + g = L ∧ s5 = .int .i64 (k : Int) ∧ MineR wx w.heap.size s4 done ∧ al b = (done ++ (al (b.drop k)).1, k + (al (b.drop k)).2) ∧ done.length ≤ k ∧ Ext w wx)
  case atStart => exact ⟨0, [], by omega, rfl, MineR.nil _ _, by simp, Nat.le_refl _, Ext.refl _⟩
  case round =>
    obtain ⟨k, done, hkg, rfl, hm, hal, hdk, hx⟩ := hrel
    obtain ⟨X, s1, hX, _⟩ := run_rest_u8 A L ca k (by omega) hc
    have hrk : Rd wr X (b.drop k) := by
      have h := hX wr b (HR.out.ext hx) HL.out
      rw [← HL.out, tab_drop9 b k (by rw [HL.out]; omega)] at h
      exact h
    have hlk : (b.drop k).length = L - k := by rw [List.length_drop, HL.out]
    have HNK := Lib.hid (show Calls Try.prog 40 #[.slice X (L - k) (ca - k)] wr (NextN (b.drop k) wr) from by
      have h := HNX.out (b.drop k) X (ca - k) wr hrk (by rw [hlk]; omega) (by rw [hlk]; omega)
      rw [hlk] at h
      exact h)
    obtain ⟨Av, cv, rfl, hcv, _⟩ := hm.slice
    have HM := Lib.hid hm
    have HX := Lib.hid hx
    have HAL := Lib.hid hal
    have HSR := Lib.hid hrk.1
    clear hX hrk hlk hm hx hal
    go_wp2_with fail
    refine HNK.out.mono ?_
    rintro e w1 ⟨hx1, hn⟩
    cases hnx : nx (b.drop k) with
    | er q =>
      rw [hnx] at hn
      subst hn
      have hq := (nx_er hnx).1
      have d1 : ((q : Int) == 0) = false := by simp; omega
      have d2 : ((q : Int) != 0) = true := by simp; omega
      have d3 : decide (q = 0) = false := decide_eq_false (by omega)
      have HFIN := Lib.hid (show al b = (done, k) from by rw [HAL.out, al_er hnx]; simp)
      have HX1 := Lib.hid (HX.out.trans hx1)
      have HM1 := Lib.hid (HM.out.ext hx1)
      clear hx1 hnx hq
      go_wp2
      go_ret2
      exact ⟨HX1.out, _, by rw [HFIN.out]; rfl, by rw [HFIN.out]; exact HM1.out⟩
    | ok t r =>
      rw [hnx] at hn
      subst hn
      obtain ⟨hfr, hfo⟩ := nx_ok HSR.out hnx
      obtain ⟨ht1, ht2, _⟩ := fr_drop hfr
      have hlen := congrArg List.length hfr
      rw [List.length_drop, List.length_append, fr_len, HL.out] at hlen
      have HAL2 := Lib.hid (show al b = ((done ++ [t]) ++ (al (b.drop (k + 6 + t.length))).1, (k + 6 + t.length) + (al (b.drop (k + 6 + t.length))).2) from by
        rw [HAL.out, al_ok hnx, ht2]
        simp
        omega)
      have hft := hfo
      unfold FrOk at hft
      obtain ⟨n, hn⟩ : ∃ n, t.length = n := ⟨_, rfl⟩
      rw [hn] at ht1 HAL2 hlen hft ⊢
      obtain ⟨k6, hk6⟩ : ∃ q, k + 6 = q := ⟨_, rfl⟩
      rw [hk6] at ht1 HAL2
      obtain ⟨kn, hkn⟩ : ∃ q, k6 + n = q := ⟨_, rfl⟩
      rw [hkn] at HAL2
      have e1 : (k : Int) + 6 = (k6 : Int) := by omega
      have e2 : (k6 : Int) + (n : Int) = (kn : Int) := by omega
      obtain ⟨Y, s2, hY⟩ := run_cut_u8 A L ca k6 kn (by omega) (by omega)
      have HY := Lib.hid (show ∀ W, Ext w W → Rd W Y t from fun W hW => by
        have h := hY W b (HR.out.ext hW) (by rw [HL.out]; omega)
        rw [show kn - k6 = n by omega, tab_cut b k6 n (by rw [HL.out]; omega), ht1] at h
        exact h)
      rw [show kn - k6 = n by omega] at s2
      have HN := Lib.hid hn
      have HST := Lib.hid (show Sm t from (sm_split9 (a := [t.length / 256, t.length % 256] ++ cbs (crcl t)) (b := t) (by
        have h := (sm_split9 (by rw [← hfr]; exact HSR.out)).1
        exact h)).2)
      have HX1 := Lib.hid (HX.out.trans hx1)
      have HM1 := Lib.hid (HM.out.ext hx1)
      have hb5 : kn ≤ L ∧ k < kn := by omega
      have hdl : (done ++ [t]).length ≤ kn := by rw [List.length_append]; simp; omega
      have HDL := Lib.hid hdl
      clear hnx hfr ht1 ht2 hY hx1 hn hlen hft hk6 hdl
      have HDN := Lib.hid (show done.length ≤ 65536 by omega)
      go_wp2_with (first
        | (at_builtin; refine wpList_append_rd rfl (.tmp 20) (.tmp 28) rfl w1.heap.size (.slice (some ⟨w1.heap.size, 0, none⟩) 0 0) [] t rfl (mine_empty w1) Y n (ca - k6) rfl HN.out (HY.out _ (HX1.out.alloc _)) (by rw [HN.out]; simp; omega) (by simp) ?_; intro v7 w7 hown7 hg7 hat7
           rw [List.nil_append] at hown7
           obtain ⟨B7, c7, hv7, hc7, hr7⟩ := hown7.slice HST.out
           have hx7 : Ext w1 w7 := ((Ext.refl w1).alloc _).more hg7 (fun q hq => by simp [Value.ownBlock] at hq; omega)
           have HFAR := Lib.hid (far_one hown7 (Value.slice Av done.length cv).ownBlock (fun q hq => (HM1.out.block q hq).2) w7.heap.size rfl)
           have HRR := Lib.hid (rrd_lit w7 [v7] [t] (rowsV_one ⟨B7, c7, hv7, hc7, hr7⟩))
           rw [HN.out] at hv7
           subst hv7
           have HX7 := Lib.hid hx7
           have hs7 := hx7.size
           have hs1 := HX1.out.size
           clear hown7 hg7 hat7 hx7 hr7 hc7)
        | (at_builtin; refine wpList_append_rows rfl (.tmp 19) (.tmp 30) rfl w.heap.size (.slice Av done.length cv) done [t] rfl (HM1.out.ext (HX7.out.alloc _)) (some ⟨w7.heap.size, 0, none⟩) 1 1 rfl rfl HRR.out HFAR.out (by have := HDN.out; simp; omega) (by simp; omega) ?_; intro v9 w9 hown9 hg9 hat9
           have HX9 := Lib.hid (((HX1.out.trans HX7.out).alloc (.cells #[.slice B7 n c7] 22)).more hg9 (fun q hq => (HM1.out.block q hq).1))
           have HO9 := Lib.hid hown9
           clear hown9 hg9 hat9))
      go_roundg (L - kn)
      case measure => omega
      case rel => exact ⟨kn, done ++ [t], by omega, rfl, HO9.out, HAL2.out, HDL.out, HX9.out⟩
end Go.Proofs.Ytfbnckecfapakaa

/-
  What layer 9's own functions answer, as relations. Conditions: no more than 2^16 bytes.
-/
namespace Go.Proofs.Ytfbnckecfapakaa
open Go.RowKit
open Pol (co Sm)

/-- Bytes of a call's own that may be written; bytes of its own. -/
def OwnW (base : Nat) (v : Value) (w : World) (t : List Nat) : Prop :=
  ∃ B c, v = .slice B t.length c ∧ t.length ≤ c ∧ Rd w B t ∧ ∀ b o, B = some ⟨b, o, none⟩ → 0 < t.length → base ≤ b ∧ ∀ i, i < t.length → w.frozen? ⟨b, o + i, none⟩ = false
def OwnT (base : Nat) (v : Value) (w : World) (t : List Nat) : Prop :=
  ∃ B c, v = .slice B t.length c ∧ t.length ≤ c ∧ Rd w B t ∧ ∀ b o, B = some ⟨b, o, none⟩ → 0 < t.length → base ≤ b
/-- Frame: the frame, or an error and no bytes. -/
def FrameS (l : List Nat) (w : World) (e : Ending) (w' : World) : Prop :=
  Ext w w' ∧ ((FrOk l ∧ ∃ v, e = .returned (.tuple #[v, .int .i64 0]) ∧ OwnT w.heap.size v w' (fr l)) ∨ (¬ FrOk l ∧ ∃ B c, e = .returned (.tuple #[.slice B 0 c, .int .i64 1])))
/-- Next: the body, in bytes that may be written, and the bytes behind it; or an error and no bytes. -/
def NextS (b : List Nat) (w : World) (e : Ending) (w' : World) : Prop :=
  Ext w w' ∧ ((∃ t r v u, nx b = .ok t r ∧ e = .returned (.tuple #[v, u, .int .i64 0]) ∧ OwnW w.heap.size v w' t ∧ OwnT w.heap.size u w' r) ∨ (∃ k B1 c1 B2 c2, nx b = .er k ∧ e = .returned (.tuple #[.slice B1 0 c1, .slice B2 0 c2, .int .i64 (k : Int)])))
/-- All: the bodies, each in bytes that may be written, none of which lies in the list's own block. -/
def AllS (b : List Nat) (w : World) (e : Ending) (w' : World) : Prop :=
  Ext w w' ∧ ∃ R c, e = .returned (.tuple #[.slice R (al b).1.length c, .int .i64 (((al b).2 : Nat) : Int)]) ∧ (al b).1.length ≤ c ∧
    ∀ i, i < (al b).1.length → ∃ g o v, R = some ⟨g, o, none⟩ ∧ w.heap.size ≤ g ∧ w'.cell? ⟨g, o + i, none⟩ = some v ∧ OwnW w.heap.size v w' (ro (al b).1 i) ∧ (∀ b' o' n' c', v = .slice (some ⟨b', o', none⟩) n' c' → b' ≠ g)
theorem AllS.reads {b : List Nat} {w w' : World} {R : Option Addr}
    (h : ∀ i, i < (al b).1.length → ∃ g o v, R = some ⟨g, o, none⟩ ∧ w.heap.size ≤ g ∧ w'.cell? ⟨g, o + i, none⟩ = some v ∧ OwnW w.heap.size v w' (ro (al b).1 i) ∧ (∀ b' o' n' c', v = .slice (some ⟨b', o', none⟩) n' c' → b' ≠ g)) : RRd w' R (al b).1 := fun i hi => by
  obtain ⟨g, o, v, hR, _, hc, ⟨B, c, rfl, hlc, hr, _⟩, _⟩ := h i hi
  exact ⟨g, o, B, c, hR, hc, hlc, hr⟩

/-- What layer 9's functions that others call are to do. -/
structure CrcOwn : Prop where
  frame : ∀ (l : List Nat) (A : Option Addr) (c : Nat) (w : World), Rd w A l → l.length ≤ c → Calls Try.prog 34 #[.slice A l.length c] w (FrameS l w)
  all : ∀ (b : List Nat) (A : Option Addr) (c : Nat) (w : World), Rd w A b → b.length ≤ c → b.length ≤ 65536 → Calls Try.prog 31 #[.slice A b.length c] w (AllS b w)

theorem rd_mark (w : World) (l : List Nat) (fr : Nat × Nat) (h : Sm l) : Rd (w.alloc (.cells (bv l).toArray 5 fr)) (some ⟨w.heap.size, 0, none⟩) l :=
  ⟨h, fun i hi => ⟨w.heap.size, 0, rfl, by
    rw [cell_of_row _ _ _ _ _ _ (heap_alloc_new w _), Nat.zero_add]
    simpa using bv_at l i hi⟩⟩
end Go.Proofs.Ytfbnckecfapakaa

/-
  Frames in a row, and what All tells of them, in short. Conditions: none; no function is named here.
-/
namespace Go.Proofs.Ytfbnckecfapakaa
open Go.RowKit
open Pol (co Sm)

theorem fl_take_succ (rows : List (List Nat)) (i : Nat) (h : i < rows.length) : fl (rows.take (i + 1)) = fl (rows.take i) ++ fr (ro rows i) := by
  rw [take_ro rows i h, fl_app]
  unfold fl
  simp
theorem fl_take_le (rows : List (List Nat)) (i : Nat) : (fl (rows.take i)).length ≤ (fl rows).length := by
  have h : fl rows = fl (rows.take i) ++ fl (rows.drop i) := by rw [← fl_app, List.take_append_drop]
  rw [h, List.length_append]
  omega
theorem fl_sm {rows : List (List Nat)} (h : ∀ t ∈ rows, FrOk t ∧ Sm t) : Sm (fl rows) := by
  unfold fl
  refine Pol.co_lt_of fun x hx => ?_
  obtain ⟨l, hl, hxl⟩ := List.mem_flatten.1 hx
  obtain ⟨t, ht, rfl⟩ := List.mem_map.1 hl
  exact (fr_sm (h t ht).2 (h t ht).1).mem x hxl
/-- What All tells, in short. -/
structure AlOk (b : List Nat) (rows : List (List Nat)) (n : Nat) : Prop where
  flat : fl rows = b.take n
  le : n ≤ b.length
  ok : ∀ t ∈ rows, FrOk t ∧ Sm t
  flen : (fl rows).length = n
  few : rows.length ≤ n
theorem alOk (b : List Nat) (hs : Sm b) : AlOk b (al b).1 (al b).2 := by
  obtain ⟨h1, h2, h3⟩ := al_flat b hs
  have hl : (fl (al b).1).length = (al b).2 := by rw [h1, List.length_take]; omega
  refine ⟨h1, h2, h3, hl, ?_⟩
  rw [← hl]
  have : ∀ rows : List (List Nat), rows.length ≤ (fl rows).length := fun rows => by
    induction rows with
    | nil => exact Nat.zero_le _
    | cons t rows ih => rw [fl_cons, List.length_append, fr_len, List.length_cons]; omega
  exact this _
def AllT (rows : List (List Nat)) (n : Nat) (w : World) (e : Ending) (w' : World) : Prop :=
  Ext w w' ∧ ∃ R c, e = .returned (.tuple #[.slice R rows.length c, .int .i64 (n : Int)]) ∧ rows.length ≤ c ∧ RRd w' R rows
theorem AllS.any {b : List Nat} {w w' : World} {e : Ending} (h : AllS b w e w') : AllT (al b).1 (al b).2 w e w' := by
  obtain ⟨hx, R, c, he, hc, hr⟩ := h
  exact ⟨hx, R, c, he, hc, AllS.reads hr⟩
theorem AllR.any {b : List Nat} {w w' : World} {e : Ending} (h : AllR b w e w') : AllT (al b).1 (al b).2 w e w' := by
  obtain ⟨hx, v, he, hm⟩ := h
  obtain ⟨A, c, rfl, hc, hr⟩ := hm.slice
  exact ⟨hx, A, c, he, hc, hr⟩
end Go.Proofs.Ytfbnckecfapakaa

/-
  A journal in plain lists: what a crash leaves; that the frames behind a crash are the first ones. Conditions: none; no function is named here.
-/
namespace Go.Proofs.Ytfbnckecfapakaa
open Go.RowKit
open Pol (co Sm)

theorem co12_left (a b : List Nat) (i : Nat) (h : i < a.length) : co (a ++ b) i = co a i := by unfold co; rw [List.getElem?_append_left h]
theorem co12_right (a b : List Nat) (i : Nat) (h : a.length ≤ i) : co (a ++ b) i = co b (i - a.length) := by unfold co; rw [List.getElem?_append_right h]
theorem co12_take (l : List Nat) (n i : Nat) (h : i < n) : co (l.take n) i = co l i := by unfold co; rw [List.getElem?_take, if_pos h]
theorem take12_succ (l : List Nat) (n : Nat) (h : n < l.length) : l.take (n + 1) = l.take n ++ [co l n] := by
  rw [List.take_succ_eq_append_getElem h]
  congr 2
  unfold co
  rw [List.getElem?_eq_getElem h]
  rfl
theorem sm12_app {a b : List Nat} (ha : Sm a) (hb : Sm b) : Sm (a ++ b) := Pol.co_lt_of fun z hz => by
  rcases List.mem_append.1 hz with h | h
  · exact ha.mem z h
  · exact hb.mem z h
theorem sm12_take {l : List Nat} (h : Sm l) (n : Nat) : Sm (l.take n) := Pol.co_lt_of fun x hx => h.mem x (List.mem_of_mem_take hx)

/-- The checksum sees the last byte. -/
theorem crc12_last (u : List Nat) (x y : Nat) (hx : x < 256) (hy : y < 256) (hne : x ≠ y) : crcl (u ++ [x]) ≠ crcl (u ++ [y]) := by
  have key : ∀ z, crf 4294967295 (co (u ++ [z])) (u ++ [z]).length = czn 8 (crf 4294967295 (co u) u.length ^^^ z) := fun z => by
    rw [List.length_append, List.length_singleton, crf, crf_congr (g := co u) u.length (fun i hi => co12_left u [z] i hi), co12_right u [z] _ (Nat.le_refl _), Nat.sub_self]
    rfl
  intro e
  unfold crcl at e
  rw [key, key] at e
  have e2 := congrArg (· ^^^ 4294967295) e
  simp only [Nat.xor_assoc, Nat.xor_self, Nat.xor_zero] at e2
  have e3 : czn 8 ((crf 4294967295 (co u) u.length ^^^ x) ^^^ (crf 4294967295 (co u) u.length ^^^ y)) = 0 := by rw [czn_lin, e2, Nat.xor_self]
  have e4 : (crf 4294967295 (co u) u.length ^^^ x) ^^^ (crf 4294967295 (co u) u.length ^^^ y) = x ^^^ y := by
    rw [Nat.xor_assoc, xor_left x, ← Nat.xor_assoc, Nat.xor_self, Nat.zero_xor]
  rw [e4] at e3
  refine czn_ne 8 (Nat.xor_lt_two_pow (n := 32) (by omega) (by omega)) ?_ e3
  intro h0
  apply hne
  have := congrArg (· ^^^ y) h0
  simpa [Nat.xor_assoc] using this

/-- The first n of some bytes, the last one of them torn. -/
def crs (l : List Nat) (n t : Nat) : List Nat := if n = 0 then [] else l.take (n - 1) ++ [co l (n - 1) ^^^ t]
theorem crs_none (l : List Nat) (t : Nat) : crs l 0 t = [] := rfl
theorem crs_some (l : List Nat) (n t : Nat) : crs l (n + 1) t = l.take n ++ [co l n ^^^ t] := by unfold crs; rw [if_neg (by omega), Nat.add_sub_cancel]
theorem crs_len (l : List Nat) (n t : Nat) (h : n ≤ l.length) : (crs l n t).length = n := by
  cases n with
  | zero => rfl
  | succ n => rw [crs_some, List.length_append, List.length_take, List.length_singleton]; omega
theorem crs_zero (l : List Nat) (n : Nat) (h : n ≤ l.length) : crs l n 0 = l.take n := by
  cases n with
  | zero => rw [crs_none, List.take_zero]
  | succ n => rw [crs_some, Nat.xor_zero, take12_succ l n (by omega)]
theorem crs_sm {l : List Nat} (h : Sm l) (n : Nat) {t : Nat} (ht : t < 256) : Sm (crs l n t) := by
  cases n with
  | zero => exact Sm.nil
  | succ n => rw [crs_some]; exact sm12_app (sm12_take h n) (Sm.cons (Nat.xor_lt_two_pow (n := 8) (h n) ht) Sm.nil)
theorem crs_behind (a b : List Nat) (n t : Nat) (h : a.length < n) : crs (a ++ b) n t = a ++ crs b (n - a.length) t := by
  obtain ⟨m, rfl⟩ : ∃ m, n = a.length + (m + 1) := ⟨n - a.length - 1, by omega⟩
  rw [Nat.add_sub_cancel_left, ← Nat.add_assoc, crs_some, crs_some, List.take_length_add_append, co12_right a b _ (by omega), Nat.add_sub_cancel_left, List.append_assoc]
theorem crs_within (a b : List Nat) (n t : Nat) (h : n ≤ a.length) : crs (a ++ b) n t = crs a n t := by
  cases n with
  | zero => rfl
  | succ n => rw [crs_some, crs_some, List.take_append_of_le_length (by omega), co12_left a b n (by omega)]

/-- A frame that is not whole, with its last byte torn, is none; nor is a whole one that is torn. -/
theorem nx_short {b : List Nat} (h : ∀ n, 1 ≤ n → n ≤ 1000 → co b 0 * 256 + co b 1 = n → 2 ≤ b.length → b.length < 6 + n) : ∃ e, nx b = .er e := by
  unfold nx
  by_cases h2 : b.length < 2
  · exact ⟨2, if_pos h2⟩
  · rw [if_neg h2]
    by_cases h3 : co b 0 * 256 + co b 1 < 1 ∨ 1000 < co b 0 * 256 + co b 1
    · exact ⟨14, if_pos h3⟩
    · rw [if_neg h3, if_pos (h _ (by omega) (by omega) rfl (by omega))]
      exact ⟨2, rfl⟩
theorem fr_zero (t : List Nat) : co (fr t) 0 = t.length / 256 := rfl
theorem fr_one (t : List Nat) : co (fr t) 1 = t.length % 256 := rfl
theorem nx_crs_cut (t : List Nat) (n x : Nat) (hn : n < (fr t).length) : ∃ e, nx (crs (fr t) n x) = .er e := by
  have hl := crs_len (fr t) n x (by omega)
  rw [fr_len] at hn
  apply nx_short
  intro m h1 h2 hm h3
  rw [hl] at h3 ⊢
  by_cases h : n = 2
  · omega
  · obtain ⟨j, rfl⟩ : ∃ j, n = (j + 2) + 1 := ⟨n - 3, by omega⟩
    rw [crs_some] at hm
    have h4 : ((fr t).take (j + 2)).length = j + 2 := by rw [List.length_take, fr_len]; omega
    rw [co12_left _ _ 0 (by omega), co12_left _ _ 1 (by omega), co12_take _ _ 0 (by omega), co12_take _ _ 1 (by omega), fr_zero, fr_one, len_two] at hm
    omega
theorem nx_crs_torn (t : List Nat) (x : Nat) (ht : FrOk t) (hs : Sm t) (hx : x < 256) (h0 : x ≠ 0) : ∃ e, nx (crs (fr t) (fr t).length x) = .er e := by
  obtain ⟨u, y, rfl⟩ : ∃ u y, t = u ++ [y] := by
    have hne : t ≠ [] := by rintro rfl; unfold FrOk at ht; simp at ht
    exact ⟨t.dropLast, t.getLast hne, (List.dropLast_concat_getLast hne).symm⟩
  have hsu : Sm u ∧ y < 256 := ⟨Pol.co_lt_of fun z hz => hs.mem z (List.mem_append.2 (.inl hz)), hs.mem y (List.mem_append.2 (.inr (List.mem_singleton.2 rfl)))⟩
  have e6 : (fr (u ++ [y])).take 6 ++ (u ++ [y]) = fr (u ++ [y]) := by
    have h6 : (fr (u ++ [y])).drop 6 = u ++ [y] := by
      unfold fr
      show (cbs (crcl (u ++ [y])) ++ (u ++ [y])).drop 4 = _
      rw [← cbs_len (crcl (u ++ [y])), List.drop_left]
    conv => lhs; rhs; rw [← h6]
    exact List.take_append_drop 6 _
  have e7 : crs (fr (u ++ [y])) (fr (u ++ [y])).length x = (fr (u ++ [y])).take 6 ++ (u ++ [y ^^^ x]) := by
    generalize hp : (fr (u ++ [y])).take 6 = p at e6 ⊢
    rw [← e6]
    have hl : (p ++ (u ++ [y])).length = (p ++ u).length + 1 := by simp only [List.length_append, List.length_singleton]; omega
    rw [hl, ← List.append_assoc, crs_some, List.take_left, co12_right _ _ _ (Nat.le_refl _), Nat.sub_self, List.append_assoc]
    rfl
  have hyx : y ^^^ x ≠ y := fun e => h0 (by
    have := congrArg (y ^^^ ·) e
    simpa [← Nat.xor_assoc] using this)
  rw [e7]
  exact ⟨4, nx_bad (u ++ [y]) (u ++ [y ^^^ x]) ht (by simp) (crc12_last u (y ^^^ x) y (Nat.xor_lt_two_pow (n := 8) hsu.2 hx) hsu.2 hyx)⟩

/-- Frames ahead of whatever stay. -/
theorem al_app (x : List Nat) : ∀ ls : List (List Nat), (∀ t ∈ ls, FrOk t) → al (fl ls ++ x) = (ls ++ (al x).1, (fl ls).length + (al x).2)
  | [], _ => by
    show al x = _
    rw [List.nil_append, show (fl []).length = 0 from rfl, Nat.zero_add]
  | t :: ls, h => by
    rw [fl_cons, List.append_assoc, al_ok (nx_fr t (fl ls ++ x) (h t (List.mem_cons.2 (.inl rfl)))), al_app x ls (fun u hu => h u (List.mem_cons.2 (.inr hu))), List.length_append, fr_len]
    refine Prod.ext rfl ?_
    show _ + (_ + _) = _
    omega
theorem al_whole (ls : List (List Nat)) (h : ∀ t ∈ ls, FrOk t) : al (fl ls) = (ls, (fl ls).length) := by
  have h1 := al_frames [] 2 rfl ls h
  rwa [List.append_nil] at h1
/-- Of torn frames the first ones are left. -/
theorem al_torn (x : Nat) (hx : x < 256) : ∀ (ls : List (List Nat)) (n : Nat), (∀ t ∈ ls, FrOk t ∧ Sm t) → n ≤ (fl ls).length → ∃ m, m ≤ ls.length ∧ al (crs (fl ls) n x) = (ls.take m, (fl (ls.take m)).length)
  | [], n, _, hn => ⟨0, Nat.le_refl _, by
    obtain rfl : n = 0 := by simpa [fl] using hn
    rw [crs_none]
    exact al_er (e := 2) rfl⟩
  | t :: ls, n, h, hn => by
    have ht := h t (List.mem_cons.2 (.inl rfl))
    have none : (∃ e, nx (crs (fl (t :: ls)) n x) = .er e) → ∃ m, m ≤ (t :: ls).length ∧ al (crs (fl (t :: ls)) n x) = ((t :: ls).take m, (fl ((t :: ls).take m)).length) := fun ⟨e, he⟩ => ⟨0, Nat.zero_le _, al_er he⟩
    rw [fl_cons] at none hn ⊢
    rw [List.length_append] at hn
    rcases Nat.lt_or_ge (fr t).length n with hlt | hge
    · obtain ⟨m, hm, e⟩ := al_torn x hx ls (n - (fr t).length) (fun u hu => h u (List.mem_cons.2 (.inr hu))) (by omega)
      refine ⟨m + 1, by simp only [List.length_cons]; omega, ?_⟩
      rw [crs_behind _ _ _ _ hlt, al_ok (nx_fr t _ ht.1), e, List.take_succ_cons, fl_cons, List.length_append, fr_len]
    · rw [crs_within _ _ _ _ hge] at none ⊢
      rcases Nat.lt_or_ge n (fr t).length with hlt | hge2
      · exact none (nx_crs_cut t n x hlt)
      · obtain rfl : n = (fr t).length := by omega
        by_cases h0 : x = 0
        · refine ⟨1, by simp, ?_⟩
          have e1 := al_whole [t] (fun u hu => by rw [List.mem_singleton.1 hu]; exact ht.1)
          have e2 : fl [t] = fr t := by unfold fl; simp
          rw [e2] at e1
          rw [h0, crs_zero _ _ (Nat.le_refl _), List.take_length, e1, List.take_succ_cons, List.take_zero, e2]
        · exact none (nx_crs_torn t x ht.1 ht.2 hx h0)

/-- What is kept of so many loose bytes. -/
def kept (k : Int) (n : Nat) : Nat := if k ≤ 0 then 0 else min k.toNat n
theorem kept_le (k : Int) (n : Nat) : kept k n ≤ n := by
  unfold kept
  split <;> omega
/-- A crash of a disk whose durable bytes are whole frames, and its loose ones too: the first records are left, and all that were durable. -/
theorem al_crash (R : List (List Nat)) (k n x : Nat) (hx : x < 256) (hR : ∀ t ∈ R, FrOk t ∧ Sm t) (hk : k ≤ R.length) (hn : n ≤ (fl (R.drop k)).length) :
    ∃ m, k ≤ m ∧ m ≤ R.length ∧ al (fl (R.take k) ++ crs (fl (R.drop k)) n x) = (R.take m, (fl (R.take m)).length) := by
  obtain ⟨m, hm, e⟩ := al_torn x hx (R.drop k) n (fun t ht => hR t (List.mem_of_mem_drop ht)) hn
  rw [List.length_drop] at hm
  have et : R.take (k + m) = R.take k ++ (R.drop k).take m := by rw [List.take_add]
  refine ⟨k + m, by omega, by omega, ?_⟩
  rw [al_app _ _ (fun t ht => (hR t (List.mem_of_mem_take ht)).1), e, et, fl_app, List.length_append]
/-- The frames of whole bytes are their bytes. -/
theorem al_again (b : List Nat) (hs : Sm b) : al (b.take (al b).2) = ((al b).1, (al b).2) := by
  obtain ⟨h1, h2, h3⟩ := al_flat b hs
  have h4 := al_whole (al b).1 (fun t ht => (h3 t ht).1)
  have h5 : (fl (al b).1).length = (al b).2 := by rw [h1, List.length_take]; omega
  rw [h5, h1] at h4
  exact h4
end Go.Proofs.Ytfbnckecfapakaa

/-
  Worlds that differ in some blocks alone. Conditions: none; no function is named here.
-/
namespace Go.Proofs.Ytfbnckecfapakaa
open Go.RowKit

/-- What was there is as it was, but for the blocks of X. -/
structure Only (X : Nat → Prop) (w w' : World) : Prop where
  os : w'.os = w.os
  tape : w'.tape = w.tape
  output : w'.output = w.output
  size : w.heap.size ≤ w'.heap.size
  block : ∀ k, k < w.heap.size → ¬ X k → w'.heap[k]? = w.heap[k]?
theorem Only.refl (X : Nat → Prop) (w : World) : Only X w w := ⟨rfl, rfl, rfl, Nat.le_refl _, fun _ _ _ => rfl⟩
theorem Only.trans {X : Nat → Prop} {a b c : World} (h : Only X a b) (k : Only X b c) : Only X a c :=
  ⟨k.os.trans h.os, k.tape.trans h.tape, k.output.trans h.output, Nat.le_trans h.size k.size, fun i hi hx => (k.block i (Nat.lt_of_lt_of_le hi h.size) hx).trans (h.block i hi hx)⟩
theorem Only.of_grown {X : Nat → Prop} {w w' : World} {row : Option Nat} (h : w.grownBy w' row) (hr : ∀ k, row = some k → X k) : Only X w w' :=
  ⟨h.os, h.tape, h.output, h.size, fun k hk hx => h.block k hk (fun e => hx (hr k e.symm))⟩
theorem Only.of_ext {X : Nat → Prop} {w w' : World} (h : Ext w w') : Only X w w' := ⟨h.below.os, h.below.tape, h.below.output, h.below.size, fun k hk _ => h.below.block k hk⟩
theorem Only.drewN {X : Nat → Prop} {a w : World} (h : Only X a w) (n : Nat) : Only X a (w.drewN n) := ⟨h.os, h.tape, h.output, h.size, h.block⟩
theorem Only.mono {X Y : Nat → Prop} {w w' : World} (h : Only X w w') (hxy : ∀ k, k < w.heap.size → X k → Y k) : Only Y w w' := ⟨h.os, h.tape, h.output, h.size, fun k hk hy => h.block k hk (fun hx => hy (hxy k hk hx))⟩
theorem Only.ext {X : Nat → Prop} {a w w' : World} (h : Only X w w') (hx : Ext a w) (hX : ∀ k, X k → a.heap.size ≤ k) : Ext a w' :=
  ⟨hx.below.trans ⟨h.os, h.tape, h.output, h.size, fun k hk => h.block k (Nat.lt_of_lt_of_le hk hx.size) (fun hk' => by have := hX k hk'; omega)⟩⟩
theorem Only.cell {X : Nat → Prop} {w w' : World} (h : Only X w w') {b o : Nat} {v : Value} (hc : w.cell? ⟨b, o, none⟩ = some v) (hx : ¬ X b) : w'.cell? ⟨b, o, none⟩ = some v :=
  (World.cell?_of_block (a := ⟨b, o, none⟩) (h.block b (block_lt_of_cell hc) hx)).trans hc
theorem Only.frozen {X : Nat → Prop} {w w' : World} (h : Only X w w') {b o : Nat} (hb : b < w.heap.size) (hx : ¬ X b) : w'.frozen? ⟨b, o, none⟩ = w.frozen? ⟨b, o, none⟩ :=
  World.frozen?_of_block (a := ⟨b, o, none⟩) (h.block b hb hx)
end Go.Proofs.Ytfbnckecfapakaa

/-
  Cells and blocks stay where worlds only grow. Conditions: none; no function is named here.
-/
namespace Go.Proofs.Ytfbnckecfapakaa
open Go.RowKit

theorem Ext.at {w w' : World} (h : Ext w w') {b o : Nat} {v : Value} (hc : w.cell? ⟨b, o, none⟩ = some v) : w'.cell? ⟨b, o, none⟩ = some v :=
  (h.below.cell (p := ⟨b, o, none⟩) (block_lt_of_cell hc)).trans hc
theorem Ext.row {w w' : World} (h : Ext w w') {b : Nat} {x : Obj} (hc : w.heap[b]? = some x) : w'.heap[b]? = some x :=
  (h.below.block b (Array.getElem?_eq_some_iff.1 hc).1).trans hc
theorem row_lt {w : World} {b : Nat} {x : Obj} (hc : w.heap[b]? = some x) : b < w.heap.size := (Array.getElem?_eq_some_iff.1 hc).1
theorem Only.row {X : Nat → Prop} {w w' : World} (h : Only X w w') {b : Nat} {x : Obj} (hc : w.heap[b]? = some x) (hx : ¬ X b) : w'.heap[b]? = some x := (h.block b (row_lt hc) hx).trans hc
theorem grown_block (w : World) (g : Nat) (V : Array Value) : w.grownBy (w.setRow g V) (some g) :=
  ⟨rfl, rfl, rfl, by simp [World.setRow], fun k _ hne => setRow_other w g k V (fun e => hne (by rw [e]))⟩
end Go.Proofs.Ytfbnckecfapakaa

/-
  What layer 12's own functions are to do, as one statement, over a predicate that the code's proof chooses: what a log is in memory. Conditions: no more than 2^16 bytes.
-/
namespace Go.Proofs.Ytfbnckecfapakaa
open Go.RowKit
open Pol (co Sm)

/-- The blocks of X, and those that were laid since. -/
def Nw (X : Nat → Prop) (w w' : World) (b : Nat) : Prop := X b ∨ (w.heap.size ≤ b ∧ b < w'.heap.size)
/-- A disk whose bytes may be written. -/
def DiskO (F L : List Nat) (w : World) (e : Ending) (w' : World) : Prop :=
  Ext w w' ∧ ∃ f l, e = .returned (.agg #[f, l]) ∧ OwnW w.heap.size f w' F ∧ OwnW w.heap.size l w' L
/-- The records, each in bytes that may be written, none of which lies in the list's own block. -/
def RecS (R : List (List Nat)) (w : World) (e : Ending) (w' : World) : Prop :=
  Ext w w' ∧ ∃ V c, e = .returned (.slice V R.length c) ∧ R.length ≤ c ∧
    ∀ i, i < R.length → ∃ g o v, V = some ⟨g, o, none⟩ ∧ w.heap.size ≤ g ∧ w'.cell? ⟨g, o + i, none⟩ = some v ∧ OwnW w.heap.size v w' (ro R i) ∧ (∀ b' o' n' c', v = .slice (some ⟨b', o', none⟩) n' c' → b' ≠ g)
theorem RecS.reads {R : List (List Nat)} {w w' : World} {V : Option Addr}
    (h : ∀ i, i < R.length → ∃ g o v, V = some ⟨g, o, none⟩ ∧ w.heap.size ≤ g ∧ w'.cell? ⟨g, o + i, none⟩ = some v ∧ OwnW w.heap.size v w' (ro R i) ∧ (∀ b' o' n' c', v = .slice (some ⟨b', o', none⟩) n' c' → b' ≠ g)) : RRd w' V R := fun i hi => by
  obtain ⟨g, o, v, hR, _, hc, ⟨B, c, rfl, hlc, hr, _⟩, _⟩ := h i hi
  exact ⟨g, o, B, c, hR, hc, hlc, hr⟩
/-- A log's records: frames, the first k of which are durable. -/
structure Lok (R : List (List Nat)) (k : Nat) : Prop where
  ok : ∀ t ∈ R, FrOk t ∧ Sm t
  le : k ≤ R.length
abbrev LogP := (Nat → Prop) → Nat → World → List (List Nat) → Nat → Prop
/-- Append and Compact: R' with k' records is what comes of it. -/
def Puts (I : LogP) (X : Nat → Prop) (lb : Nat) (R : List (List Nat)) (k : Nat) (t : List Nat) (R' : List (List Nat)) (k' : Nat) (w : World) (e : Ending) (w' : World) : Prop :=
  Only X w w' ∧ ((FrOk t ∧ e = .returned (.int .i64 0) ∧ I (Nw X w w') lb w' R' k') ∨ (¬ FrOk t ∧ e = .returned (.int .i64 1) ∧ I (Nw X w w') lb w' R k))

structure JournalSaid (I : LogP) : Prop where
  keep : ∀ {X : Nat → Prop} {lb : Nat} {w w' : World} {R : List (List Nat)} {k : Nat}, I X lb w R k → (∀ b, X b → w'.heap[b]? = w.heap[b]?) → w.heap.size ≤ w'.heap.size → I X lb w' R k
  mono : ∀ {X Y : Nat → Prop} {lb : Nat} {w : World} {R : List (List Nat)} {k : Nat}, I X lb w R k → (∀ b, X b → Y b) → I Y lb w R k
  lok : ∀ {X : Nat → Prop} {lb : Nat} {w : World} {R : List (List Nat)} {k : Nat}, I X lb w R k → Lok R k
  write : ∀ (F L b : List Nat) (A B D : Option Addr) (ca cb cd : Nat) (w : World), Rd w A F → Rd w B L → Rd w D b → F.length ≤ 65536 → L.length ≤ 65536 → b.length ≤ 65536 →
    Calls Try.prog 25 #[.agg #[.slice A F.length ca, .slice B L.length cb], .slice D b.length cd] w (DiskO F (L ++ b) w)
  dsync : ∀ (F L : List Nat) (A B : Option Addr) (ca cb : Nat) (w : World), Rd w A F → Rd w B L → F.length ≤ 65536 → L.length ≤ 65536 →
    Calls Try.prog 28 #[.agg #[.slice A F.length ca, .slice B L.length cb]] w (DiskO (F ++ L) [] w)
  crash : ∀ (F L : List Nat) (A B : Option Addr) (ca cb : Nat) (k : Int) (x : Nat) (w : World), Rd w A F → Rd w B L → F.length ≤ 65536 → L.length ≤ 65536 → L.length ≤ cb → x < 256 →
    Calls Try.prog 23 #[.agg #[.slice A F.length ca, .slice B L.length cb], .int .i64 k, .int .u8 (x : Int)] w (DiskO (F ++ crs L (kept k L.length) x) [] w)
  opn : ∀ (F L : List Nat) (A B : Option Addr) (ca cb : Nat) (w : World), Rd w A F → Rd w B L → F.length + L.length ≤ 65536 →
    Calls Try.prog 11 #[.agg #[.slice A F.length ca, .slice B L.length cb]] w (fun e w' => Ext w w' ∧ ∃ lb, e = .returned (.pointer (some ⟨lb, 0, none⟩)) ∧ I (Nw (fun _ => False) w w') lb w' (al (F ++ L)).1 (al (F ++ L)).1.length)
  append : ∀ (X : Nat → Prop) (lb : Nat) (R : List (List Nat)) (k : Nat) (t : List Nat) (A : Option Addr) (c : Nat) (w : World), I X lb w R k → Rd w A t → t.length ≤ c → (fl R).length ≤ 65536 →
    Calls Try.prog 17 #[.pointer (some ⟨lb, 0, none⟩), .slice A t.length c] w (Puts I X lb R k t (R ++ [t]) k w)
  sync : ∀ (X : Nat → Prop) (lb : Nat) (R : List (List Nat)) (k : Nat) (w : World), I X lb w R k → (fl R).length ≤ 65536 →
    Calls Try.prog 19 #[.pointer (some ⟨lb, 0, none⟩)] w (fun e w' => e = .returned (.tuple #[]) ∧ Only X w w' ∧ I (Nw X w w') lb w' R R.length)
  compact : ∀ (X : Nat → Prop) (lb : Nat) (R : List (List Nat)) (k : Nat) (t : List Nat) (A : Option Addr) (c : Nat) (w : World), I X lb w R k → Rd w A t → t.length ≤ c →
    Calls Try.prog 21 #[.pointer (some ⟨lb, 0, none⟩), .slice A t.length c] w (Puts I X lb R k t [t] 1 w)
  records : ∀ (X : Nat → Prop) (lb : Nat) (R : List (List Nat)) (k : Nat) (w : World), I X lb w R k → (fl R).length ≤ 65536 →
    Calls Try.prog 16 #[.pointer (some ⟨lb, 0, none⟩)] w (RecS R w)
  fast : ∀ (X : Nat → Prop) (lb : Nat) (R : List (List Nat)) (k : Nat) (w : World), I X lb w R k →
    Calls Try.prog 26 #[.pointer (some ⟨lb, 0, none⟩)] w (Tells (.int .i64 (k : Int)) w)
  disk : ∀ (X : Nat → Prop) (lb : Nat) (R : List (List Nat)) (k : Nat) (w : World), I X lb w R k → (fl R).length ≤ 65536 →
    Calls Try.prog 14 #[.pointer (some ⟨lb, 0, none⟩)] w (DiskO (fl (R.take k)) (fl (R.drop k)) w)
  nappend : ∀ (a : Value) (w : World), Calls Try.prog 17 #[.pointer none, a] w (Tells (.int .i64 1) w)
  ncompact : ∀ (a : Value) (w : World), Calls Try.prog 21 #[.pointer none, a] w (Tells (.int .i64 1) w)
  nsync : ∀ (w : World), Calls Try.prog 19 #[.pointer none] w (fun e w' => e = .returned (.tuple #[]) ∧ Ext w w')
  nrecords : ∀ (w : World), Calls Try.prog 16 #[.pointer none] w (Tells (.slice none 0 0) w)
  nfast : ∀ (w : World), Calls Try.prog 26 #[.pointer none] w (Tells (.int .i64 0) w)
  ndisk : ∀ (w : World), Calls Try.prog 14 #[.pointer none] w (Tells (.agg #[.slice none 0 0, .slice none 0 0]) w)
end Go.Proofs.Ytfbnckecfapakaa

/-
  The document's comparison of lists, of two that are alike. Conditions: no more than 2^20 rows of 2^20 bytes.
-/
namespace Go.Proofs.Ytfbnckecfapakaa
open Go.RowKit
open Pol (co Sm)

set_option maxHeartbeats 800000 in
theorem ref9_lists (rows : List (List Nat)) (A B : Option Addr) (ca cb : Nat) (w : World) (ha : RRd w A rows) (hb : RRd w B rows) (hl : rows.length ≤ 1048576) (hls : ∀ i, i < rows.length → (ro rows i).length ≤ 1048576) :
    Calls Try.prog 15 #[.slice A rows.length ca, .slice B rows.length cb] w (Hands (.bool true) w) := by
  have HA := Lib.hid ha
  have HB := Lib.hid hb
  obtain ⟨n, hn⟩ : ∃ n, rows.length = n := ⟨_, rfl⟩
  have HN := Lib.hid hn
  rw [hn] at hl hls ⊢
  have HLS := Lib.hid hls
  clear ha hb hn hls
  go_enter Try.func15, Try.ntmps15
  go_wp2
  go_loopg [14] n (fun g s wx => ∃ i m : Nat, i + g = n ∧ s = .int .i64 (i : Int) ∧ wx = w.drewN m)
  case atStart => exact ⟨0, 0, by omega, rfl, rfl⟩
  case round =>
    obtain ⟨i, m, hig, rfl, rfl⟩ := hrel
    cases gk with
    | zero =>
      obtain rfl : i = n := by omega
      clear hig
      go_wp2
      go_ret
      exact ⟨rfl, m, rfl⟩
    | succ g =>
      have hi : i < n := by omega
      have hiI : (i : Int) < (n : Int) := by omega
      obtain ⟨b1, o1, R1, c1, rfl, hc1, hl1, hr1⟩ := HA.out i (by rw [HN.out]; exact hi)
      obtain ⟨b2, o2, R2, c2, rfl, hc2, hl2, hr2⟩ := HB.out i (by rw [HN.out]; exact hi)
      obtain ⟨t, ht⟩ : ∃ t, ro rows i = t := ⟨_, rfl⟩
      rw [ht] at hc1 hc2 hr1 hr2 hl1 hl2
      obtain ⟨k, hk⟩ : ∃ k, t.length = k := ⟨_, rfl⟩
      rw [hk] at hc1 hc2 hl1 hl2
      have HR1 := Lib.hid hr1
      have HR2 := Lib.hid hr2
      have HK := Lib.hid hk
      have HIG := Lib.hid hig
      have hkl : k ≤ 1048576 := by rw [← hk, ← ht]; exact HLS.out i hi
      clear hr1 hr2 hk ht hig
      go_wp2
      go_quiet (fail)
      go_wp2
      go_loopg [33] k (fun g s wx => ∃ j m : Nat, j + g = k ∧ s = .int .i64 (j : Int) ∧ wx = w.drewN m)
      case atStart => exact ⟨0, _, by omega, rfl, rfl⟩
      case round =>
        obtain ⟨j, m2, hjg, rfl, rfl⟩ := hrel
        cases gk with
        | zero =>
          obtain rfl : j = k := by omega
          clear hjg
          go_wp2
          go_roundg g
          case measure => omega
          case rel => exact ⟨i + 1, m2, by have := HIG.out; omega, by go_num, rfl⟩
        | succ g2 =>
          have hj : j < k := by omega
          have hjI : (j : Int) < (k : Int) := by omega
          obtain ⟨b3, o3, rfl, hc3⟩ := HR1.out.2 j (by rw [HK.out]; exact hj)
          obtain ⟨b4, o4, rfl, hc4⟩ := HR2.out.2 j (by rw [HK.out]; exact hj)
          generalize co t j = y at *
          have d6 : ((y : Int) != (y : Int)) = false := by simp
          go_wp2
          go_quiet (fail)
          go_wp2
          go_roundg g2
          case measure => omega
          case rel => exact ⟨j + 1, _, by omega, by go_num, rfl⟩
end Go.Proofs.Ytfbnckecfapakaa

/-
  Two slices that read as one list are the same to the statements' own comparison. Conditions: none.
-/
namespace Go.Proofs.Ytfbnckecfapakaa
open Go.RowKit
open Pol (co Sm)

set_option maxHeartbeats 400000 in
set_option maxRecDepth 100000 in
theorem same_true (l : List Nat) (A B : Option Addr) (ca cb : Nat) (w : World) (ha : Rd w A l) (hb : Rd w B l) (hl : l.length ≤ 1048576) :
    Calls Try.prog 30 #[.slice A l.length ca, .slice B l.length cb] w (Hands (.bool true) w) := by
  generalize hn : l.length = n at *
  have HA := Lib.hid ha
  have HB := Lib.hid hb
  have HN := Lib.hid hn
  clear ha hb hn
  go_enter Try.func30, Try.ntmps30
  go_wp2
  go_loopg [13] n (fun g s wx => ∃ k m : Nat, k + g = n ∧ s = .int .i64 (k : Int) ∧ wx = w.drewN m)
  case atStart => exact ⟨0, 0, by omega, rfl, rfl⟩
  case round =>
    obtain ⟨k, m, hkg, rfl, rfl⟩ := hrel
    cases gk with
    | zero =>
      obtain rfl : k = n := by omega
      clear hkg
      go_wp2
      go_ret
      exact ⟨rfl, m, rfl⟩
    | succ g =>
      have hk : k < n := by omega
      obtain ⟨b, o, rfl, hc⟩ := HA.out.2 k (by rw [HN.out]; exact hk)
      obtain ⟨b', o', rfl, hc'⟩ := HB.out.2 k (by rw [HN.out]; exact hk)
      have hkI : (k : Int) < (n : Int) := by omega
      go_wp2
      go_quiet (fail)
      go_wp2
      go_roundg g
      case measure => omega
      case rel => exact ⟨k + 1, _, by omega, by go_num, rfl⟩
theorem same_tells (l : List Nat) (A B : Option Addr) (ca cb : Nat) (w : World) (ha : Rd w A l) (hb : Rd w B l) (hl : l.length ≤ 1048576) :
    Calls Try.prog 30 #[.slice A l.length ca, .slice B l.length cb] w (Tells (.bool true) w) := (same_true l A B ca cb w ha hb hl).mono fun _ _ h => h.tells
end Go.Proofs.Ytfbnckecfapakaa

/-
  Bytes of a call's own that may be written; one frame. Conditions: none; no function is named here.
-/
namespace Go.Proofs.Ytfbnckecfapakaa
open Go.RowKit
open Pol (co Sm)

theorem nx_one (b : List Nat) (h : FrOk b) : nx (fr b) = .ok b [] := by
  have := nx_fr b [] h
  rwa [List.append_nil] at this
theorem al_one (b : List Nat) (h : FrOk b) : al (fr b) = ([b], 6 + b.length) := by
  rw [al_ok (nx_one b h), al_er (e := 2) (by unfold nx; simp)]
  rfl
theorem grown_set9 (w : World) (g o : Nat) (v : Value) : w.grownBy (w.setCell ⟨g, o, none⟩ v) (some g) := grown_set w g o v
/-- n cells from there on may be written. -/
def Wr (w : World) (g o n : Nat) : Prop := ∀ i, i < n → (∃ v, w.cell? ⟨g, o + i, none⟩ = some v) ∧ w.frozen? ⟨g, o + i, none⟩ = false
theorem Wr.set {w : World} {g o n : Nat} (h : Wr w g o n) (a : Addr) (v : Value) : Wr (w.setCell a v) g o n := fun i hi => by
  obtain ⟨⟨u, hu⟩, hf⟩ := h i hi
  refine ⟨?_, by rw [World.frozen?_setCell]; exact hf⟩
  by_cases e : a = ⟨g, o + i, none⟩
  · subst e; exact ⟨v, World.cell?_setCell_same' _ _ _ (by rw [hu]; rfl)⟩
  · exact ⟨u, (World.cell?_setCell_other _ _ _ _ e).trans hu⟩
theorem Wr.only {X : Nat → Prop} {w w' : World} {g o n : Nat} (h : Wr w g o n) (ho : Only X w w') (hx : ¬ X g) : Wr w' g o n := fun i hi => by
  obtain ⟨⟨u, hu⟩, hf⟩ := h i hi
  exact ⟨⟨u, ho.cell hu hx⟩, (ho.frozen (block_lt_of_cell hu) hx).trans hf⟩
theorem Wr.ext {w w' : World} {g o n : Nat} (h : Wr w g o n) (hx : Ext w w') : Wr w' g o n := h.only (X := fun _ => False) (Only.of_ext hx) (fun h => h)
theorem OwnW.wr {base : Nat} {v : Value} {w : World} {t : List Nat} (h : OwnW base v w t) (ht : 0 < t.length) : ∃ g o c, v = .slice (some ⟨g, o, none⟩) t.length c ∧ t.length ≤ c ∧ base ≤ g ∧ g < w.heap.size ∧ Wr w g o t.length := by
  obtain ⟨B, c, rfl, hc, hr, hb⟩ := h
  obtain ⟨g, o, rfl, hcell⟩ := hr.addr ht
  obtain ⟨h1, h2⟩ := hb g o rfl ht
  exact ⟨g, o, c, rfl, hc, h1, block_lt_of_cell (hcell 0 ht), fun i hi => ⟨⟨_, hcell i hi⟩, h2 i hi⟩⟩
end Go.Proofs.Ytfbnckecfapakaa

/-
  Layer 12's functions as the laws' walks use them: logs with the blocks that are theirs; disks whose slices have names. Conditions: no more than 2^16 bytes.
-/
namespace Go.Proofs.Ytfbnckecfapakaa
open Go.RowKit
open Pol (co Sm)

/-- A slice of bytes of a call's own. -/
structure Sd (base : Nat) (w : World) (A : Option Addr) (n c : Nat) (l : List Nat) : Prop where
  len : l.length = n
  cap : n ≤ c
  rd : Rd w A l
  own : OwnW base (.slice A n c) w l
theorem OwnW.sd {base : Nat} {v : Value} {w : World} {l : List Nat} (h : OwnW base v w l) : ∃ A n c, v = .slice A n c ∧ Sd base w A n c l := by
  have h' := h
  obtain ⟨B, c, rfl, hc, hr, _⟩ := h'
  exact ⟨B, _, c, rfl, rfl, hc, hr, h⟩
theorem OwnW.ext {base : Nat} {v : Value} {w w' : World} {l : List Nat} (h : OwnW base v w l) (hx : Ext w w') : OwnW base v w' l := by
  obtain ⟨B, c, rfl, hc, hr, hb⟩ := h
  refine ⟨B, c, rfl, hc, hr.ext hx, fun b o e h0 => ?_⟩
  obtain ⟨h1, h2⟩ := hb b o e h0
  obtain ⟨b', o', e', hcell⟩ := hr.addr h0
  rw [e] at e'
  injection e' with e'
  injection e' with e1 e2
  subst e1; subst e2
  refine ⟨h1, fun i hi => ?_⟩
  exact (World.frozen?_of_block (a := ⟨b, o + i, none⟩) (hx.below.block b (block_lt_of_cell (hcell i hi)))).trans (h2 i hi)
theorem OwnW.down12 {base base' : Nat} {v : Value} {w : World} {t : List Nat} (h : OwnW base v w t) (hb : base' ≤ base) : OwnW base' v w t := by
  obtain ⟨B, c, e, hc, hr, hk⟩ := h
  exact ⟨B, c, e, hc, hr, fun b o e2 h0 => ⟨Nat.le_trans hb (hk b o e2 h0).1, (hk b o e2 h0).2⟩⟩
theorem Sd.ext {base : Nat} {w w' : World} {A : Option Addr} {n c : Nat} {l : List Nat} (h : Sd base w A n c l) (hx : Ext w w') : Sd base w' A n c l := ⟨h.len, h.cap, h.rd.ext hx, h.own.ext hx⟩
theorem Sd.down {base base' : Nat} {w : World} {A : Option Addr} {n c : Nat} {l : List Nat} (h : Sd base w A n c l) (hb : base' ≤ base) : Sd base' w A n c l := ⟨h.len, h.cap, h.rd, h.own.down12 hb⟩
def DiskP (F L : List Nat) (w : World) (e : Ending) (w' : World) : Prop :=
  Ext w w' ∧ ∃ A nf ca B nl cb, e = .returned (.agg #[.slice A nf ca, .slice B nl cb]) ∧ Sd w.heap.size w' A nf ca F ∧ Sd w.heap.size w' B nl cb L
theorem DiskO.toP {F L : List Nat} {w : World} {e : Ending} {w' : World} (h : DiskO F L w e w') : DiskP F L w e w' := by
  obtain ⟨hx, f, l, rfl, hf, hl⟩ := h
  obtain ⟨A, nf, ca, rfl, h1⟩ := hf.sd
  obtain ⟨B, nl, cb, rfl, h2⟩ := hl.sd
  exact ⟨hx, A, nf, ca, B, nl, cb, rfl, h1, h2⟩
/-- The rows that Records tells. -/
def RecP (R : List (List Nat)) (w : World) (e : Ending) (w' : World) : Prop :=
  Ext w w' ∧ ∃ V n c, e = .returned (.slice V n c) ∧ R.length = n ∧ n ≤ c ∧ RRd w' V R ∧
    ∀ i, i < R.length → ∃ g o v, V = some ⟨g, o, none⟩ ∧ w.heap.size ≤ g ∧ w'.cell? ⟨g, o + i, none⟩ = some v ∧ OwnW w.heap.size v w' (ro R i) ∧ (∀ b' o' n' c', v = .slice (some ⟨b', o', none⟩) n' c' → b' ≠ g)
theorem RecS.toP {R : List (List Nat)} {w : World} {e : Ending} {w' : World} (h : RecS R w e w') : RecP R w e w' := by
  obtain ⟨hx, V, c, he, hc, hr⟩ := h
  exact ⟨hx, V, _, c, he, rfl, hc, RecS.reads hr, hr⟩
/-- A log, whose blocks are those of X, which lie between base and the world's end. -/
def Lg (I : LogP) (X : Nat → Prop) (lb : Nat) (w : World) (R : List (List Nat)) (k base : Nat) : Prop := I X lb w R k ∧ ∀ b, X b → base ≤ b ∧ b < w.heap.size

section
variable {I : LogP} (C : JournalSaid I)
include C
theorem Lg.only {X Y : Nat → Prop} {lb : Nat} {w w' : World} {R : List (List Nat)} {k base : Nat} (h : Lg I X lb w R k base) (ho : Only Y w w') (hxy : ∀ b, X b → ¬ Y b) : Lg I X lb w' R k base :=
  ⟨C.keep h.1 (fun b hb => ho.block b (h.2 b hb).2 (hxy b hb)) ho.size, fun b hb => ⟨(h.2 b hb).1, Nat.lt_of_lt_of_le (h.2 b hb).2 ho.size⟩⟩
theorem Lg.ext {X : Nat → Prop} {lb : Nat} {w w' : World} {R : List (List Nat)} {k base : Nat} (h : Lg I X lb w R k base) (hx : Ext w w') : Lg I X lb w' R k base := h.only C (Y := fun _ => False) (Only.of_ext hx) (fun _ _ h => h)
theorem Lg.lok {X : Nat → Prop} {lb : Nat} {w : World} {R : List (List Nat)} {k base : Nat} (h : Lg I X lb w R k base) : Lok R k := C.lok h.1
omit C in
theorem Lg.new {X : Nat → Prop} {lb : Nat} {w w' : World} {R R' : List (List Nat)} {k k' base : Nat} (h : Lg I X lb w R k base) (ho : Only X w w') (hb : base ≤ w.heap.size) (hi : I (Nw X w w') lb w' R' k') : Lg I (Nw X w w') lb w' R' k' base :=
  ⟨hi, fun b hb' => by
    rcases hb' with e | ⟨h1, h2⟩
    · exact ⟨(h.2 b e).1, Nat.lt_of_lt_of_le (h.2 b e).2 ho.size⟩
    · exact ⟨Nat.le_trans hb h1, h2⟩⟩
theorem lg_open {F L : List Nat} {A B : Option Addr} {nf ca nl cb : Nat} (w : World) (hf : F.length = nf) (hl : L.length = nl) (rf : Rd w A F) (rl : Rd w B L) (hs : nf + nl ≤ 65536) :
    Calls Try.prog 11 #[.agg #[.slice A nf ca, .slice B nl cb]] w (fun e w' => Ext w w' ∧ ∃ lb X, e = .returned (.pointer (some ⟨lb, 0, none⟩)) ∧ Lg I X lb w' (al (F ++ L)).1 (al (F ++ L)).1.length w.heap.size ∧ ∀ b, X b → w.heap.size ≤ b) := by
  subst hf; subst hl
  refine (C.opn F L A B ca cb w rf rl hs).mono ?_
  rintro e w' ⟨hx, lb, he, hi⟩
  refine ⟨hx, lb, _, he, ⟨hi, fun b hb => ?_⟩, fun b hb => ?_⟩
  · rcases hb with h | h
    · exact absurd h id
    · exact h
  · rcases hb with h | h
    · exact absurd h id
    · exact h.1
/-- Append, whatever comes. -/
theorem lg_append {X : Nat → Prop} {lb : Nat} {R : List (List Nat)} {k base : Nat} {t : List Nat} {A : Option Addr} {n c : Nat} {w : World} (h : Lg I X lb w R k base) (ht : t.length = n) (hr : Rd w A t) (hc : n ≤ c) (hs : (fl R).length ≤ 65536) (hb : base ≤ w.heap.size) :
    Calls Try.prog 17 #[.pointer (some ⟨lb, 0, none⟩), .slice A n c] w (fun e w' => Only X w w' ∧ ((FrOk t ∧ e = .returned (.int .i64 0) ∧ Lg I (Nw X w w') lb w' (R ++ [t]) k base) ∨ (¬ FrOk t ∧ e = .returned (.int .i64 1) ∧ Lg I (Nw X w w') lb w' R k base))) := by
  subst ht
  refine (C.append X lb R k t A c w h.1 hr hc hs).mono ?_
  rintro e w' ⟨ho, hor⟩
  refine ⟨ho, hor.imp (fun ⟨h1, h2, h3⟩ => ⟨h1, h2, h.new ho hb h3⟩) (fun ⟨h1, h2, h3⟩ => ⟨h1, h2, h.new ho hb h3⟩)⟩
theorem lg_append_ok {X : Nat → Prop} {lb : Nat} {R : List (List Nat)} {k base : Nat} {t : List Nat} {A : Option Addr} {n c : Nat} {w : World} (h : Lg I X lb w R k base) (hf : FrOk t) (ht : t.length = n) (hr : Rd w A t) (hc : n ≤ c) (hs : (fl R).length ≤ 65536) (hb : base ≤ w.heap.size) :
    Calls Try.prog 17 #[.pointer (some ⟨lb, 0, none⟩), .slice A n c] w (fun e w' => Only X w w' ∧ e = .returned (.int .i64 0) ∧ Lg I (Nw X w w') lb w' (R ++ [t]) k base) := by
  refine (lg_append C h ht hr hc hs hb).mono ?_
  rintro e w' ⟨ho, (⟨_, h1, h2⟩ | ⟨h1, _⟩)⟩
  · exact ⟨ho, h1, h2⟩
  · exact absurd hf h1
theorem lg_compact {X : Nat → Prop} {lb : Nat} {R : List (List Nat)} {k base : Nat} {t : List Nat} {A : Option Addr} {n c : Nat} {w : World} (h : Lg I X lb w R k base) (ht : t.length = n) (hr : Rd w A t) (hc : n ≤ c) (hb : base ≤ w.heap.size) :
    Calls Try.prog 21 #[.pointer (some ⟨lb, 0, none⟩), .slice A n c] w (fun e w' => Only X w w' ∧ ((FrOk t ∧ e = .returned (.int .i64 0) ∧ Lg I (Nw X w w') lb w' [t] 1 base) ∨ (¬ FrOk t ∧ e = .returned (.int .i64 1) ∧ Lg I (Nw X w w') lb w' R k base))) := by
  subst ht
  refine (C.compact X lb R k t A c w h.1 hr hc).mono ?_
  rintro e w' ⟨ho, hor⟩
  exact ⟨ho, hor.imp (fun ⟨h1, h2, h3⟩ => ⟨h1, h2, h.new ho hb h3⟩) (fun ⟨h1, h2, h3⟩ => ⟨h1, h2, h.new ho hb h3⟩)⟩
theorem lg_sync {X : Nat → Prop} {lb : Nat} {R : List (List Nat)} {k base : Nat} {w : World} (h : Lg I X lb w R k base) (hs : (fl R).length ≤ 65536) (hb : base ≤ w.heap.size) :
    Calls Try.prog 19 #[.pointer (some ⟨lb, 0, none⟩)] w (fun e w' => e = .returned (.tuple #[]) ∧ Only X w w' ∧ Lg I (Nw X w w') lb w' R R.length base) := by
  refine (C.sync X lb R k w h.1 hs).mono ?_
  rintro e w' ⟨he, ho, hi⟩
  exact ⟨he, ho, h.new ho hb hi⟩
theorem lg_records {X : Nat → Prop} {lb : Nat} {R : List (List Nat)} {k base : Nat} {w : World} (h : Lg I X lb w R k base) (hs : (fl R).length ≤ 65536) :
    Calls Try.prog 16 #[.pointer (some ⟨lb, 0, none⟩)] w (RecP R w) := (C.records X lb R k w h.1 hs).mono fun _ _ h => h.toP
theorem lg_fast {X : Nat → Prop} {lb : Nat} {R : List (List Nat)} {k base : Nat} {w : World} (h : Lg I X lb w R k base) :
    Calls Try.prog 26 #[.pointer (some ⟨lb, 0, none⟩)] w (Tells (.int .i64 (k : Int)) w) := C.fast X lb R k w h.1
theorem lg_disk {X : Nat → Prop} {lb : Nat} {R : List (List Nat)} {k base : Nat} {w : World} (h : Lg I X lb w R k base) (hs : (fl R).length ≤ 65536) :
    Calls Try.prog 14 #[.pointer (some ⟨lb, 0, none⟩)] w (DiskP (fl (R.take k)) (fl (R.drop k)) w) := (C.disk X lb R k w h.1 hs).mono fun _ _ h => h.toP
theorem dk_crash {F L : List Nat} {A B : Option Addr} {nf ca nl cb : Nat} (k : Int) (x : Nat) (w : World) (hf : F.length = nf) (hl : L.length = nl) (rf : Rd w A F) (rl : Rd w B L) (h1 : nf ≤ 65536) (h2 : nl ≤ 65536) (h3 : nl ≤ cb) (hx : x < 256) :
    Calls Try.prog 23 #[.agg #[.slice A nf ca, .slice B nl cb], .int .i64 k, .int .u8 (x : Int)] w (DiskP (F ++ crs L (kept k nl) x) [] w) := by
  subst hf; subst hl
  exact (C.crash F L A B ca cb k x w rf rl h1 h2 h3 hx).mono fun _ _ h => h.toP
theorem dk_sync {F L : List Nat} {A B : Option Addr} {nf ca nl cb : Nat} (w : World) (hf : F.length = nf) (hl : L.length = nl) (rf : Rd w A F) (rl : Rd w B L) (h1 : nf ≤ 65536) (h2 : nl ≤ 65536) :
    Calls Try.prog 28 #[.agg #[.slice A nf ca, .slice B nl cb]] w (DiskP (F ++ L) [] w) := by
  subst hf; subst hl
  exact (C.dsync F L A B ca cb w rf rl h1 h2).mono fun _ _ h => h.toP
theorem dk_write {F L b : List Nat} {A B D : Option Addr} {nf ca nl cb nb cd : Nat} (w : World) (hf : F.length = nf) (hl : L.length = nl) (hb : b.length = nb) (rf : Rd w A F) (rl : Rd w B L) (rb : Rd w D b) (h1 : nf ≤ 65536) (h2 : nl ≤ 65536) (h3 : nb ≤ 65536) :
    Calls Try.prog 25 #[.agg #[.slice A nf ca, .slice B nl cb], .slice D nb cd] w (DiskP F (L ++ b) w) := by
  subst hf; subst hl; subst hb
  exact (C.write F L b A B D ca cb cd w rf rl rb h1 h2 h3).mono fun _ _ h => h.toP
end
theorem lists_n {rows : List (List Nat)} {A B : Option Addr} {n ca cb : Nat} (w : World) (hn : rows.length = n) (ha : RRd w A rows) (hb : RRd w B rows) (hl : n ≤ 65536) (hls : ∀ i, i < n → (ro rows i).length ≤ 65536) :
    Calls Try.prog 15 #[.slice A n ca, .slice B n cb] w (Hands (.bool true) w) := by
  subst hn
  exact ref9_lists rows A B ca cb w ha hb (by omega) (fun i hi => Nat.le_trans (hls i hi) (by decide))
theorem same_n {l : List Nat} {A B : Option Addr} {n ca cb : Nat} (w : World) (hn : l.length = n) (ha : Rd w A l) (hb : Rd w B l) (hl : n ≤ 65536) :
    Calls Try.prog 30 #[.slice A n ca, .slice B n cb] w (Tells (.bool true) w) := by
  subst hn
  exact same_tells l A B ca cb w ha hb (by omega)
/-- A short list of rows: what is laid out. -/
theorem fl_small {R : List (List Nat)} {m : Nat} (h : ∀ t ∈ R, t.length ≤ m) : (fl R).length ≤ R.length * (m + 6) := by
  induction R with
  | nil => exact Nat.zero_le _
  | cons t R ih =>
    rw [fl_cons, List.length_append, fr_len, List.length_cons]
    have h1 := h t (List.mem_cons.2 (.inl rfl))
    have h2 := ih (fun u hu => h u (List.mem_cons.2 (.inr hu)))
    rw [Nat.succ_mul]
    omega
theorem parts12 (R : List (List Nat)) (k : Nat) : fl (R.take k) ++ fl (R.drop k) = fl R := by rw [← fl_app, List.take_append_drop]
theorem parts12_le (R : List (List Nat)) (k : Nat) : (fl (R.take k)).length ≤ (fl R).length ∧ (fl (R.drop k)).length ≤ (fl R).length ∧ (fl (R.take k)).length + (fl (R.drop k)).length = (fl R).length := by
  have h := congrArg List.length (parts12 R k)
  rw [List.length_append] at h
  omega
theorem fl_len12 : ∀ R : List (List Nat), R.length ≤ (fl R).length
  | [] => Nat.le_refl _
  | t :: R => by
    have := fl_len12 R
    rw [fl_cons, List.length_append, fr_len, List.length_cons]
    omega
theorem row_one {l : List Nat} {m : Nat} (h : l.length ≤ m) : ∀ i, i < 1 → (ro [l] i).length ≤ m := fun i hi => by
  have : i = 0 := by omega
  subst this
  exact h
theorem ok_len {R : List (List Nat)} {k : Nat} (h : Lok R k) : ∀ i, i < R.length → (ro R i).length ≤ 1000 := fun i hi => by
  have := (h.ok (ro R i) (ro_in R i hi)).1
  exact this.2
end Go.Proofs.Ytfbnckecfapakaa

/-
  Appends of bytes to slices without room. Conditions: lengths up to 2^40.
-/
namespace Go.Proofs.Ytfbnckecfapakaa
open Go.RowKit
open Pol (co Sm)

set_option maxRecDepth 100000 in
/-- An append to a slice without room. -/
theorem run_append_full9 (w : World) (ty : TypeId) (b o n c : Nat) (l m : List Nat) (hn : l.length = n) (hr : Rd w (some ⟨b, o, none⟩) l) (a : Addr) (hm : Rd w (some a) m) (h0 : 0 < m.length) (hlen : l.length + m.length ≤ 1099511627776) :
    ∃ v' w', (Builtin.append_ #[22, 22] ty #[.slice (some ⟨b, o, none⟩) n n, .slice (some a) m.length c]).run Try.prog w = .ok v' w' ∧ Mine w' w.heap.size v' (l ++ m) ∧ Ext w w' := by
  subst hn
  obtain ⟨i0, hi, hz0, hz1, hz2⟩ := info_parts u8_info
  have hcells : ∀ (L : List Nat) (A : Addr), Rd w (some A) L → ∀ j u, (bv L)[j]? = some u → w.cell? (A.add j) = some u := fun L A h j u hu => by
    have hj : j < L.length := by
      have := (List.getElem?_eq_some_iff.1 hu).1
      rwa [bv_len] at this
    obtain ⟨b, o, e, hc⟩ := h.2 j hj
    injection e with e
    subst e
    rw [addr_add, hc, ← bv_at L j hj, hu]
  obtain ⟨v', w', h1, h2, h3⟩ := run_append_arg_grows (P := Try.prog) w 22 ty 5 i0 (.int .u8 0) 1 1 Try.underlying22 hi hz0 hz1 hz2 rfl (by omega) ⟨b, o, none⟩ l.length l.length (bv l) (by rw [bv_len, Nat.mul_one]) (hcells l _ hr)
    a m.length c (bv m) (by rw [bv_len, Nat.mul_one]) (hcells m _ hm) (by omega) (by unfold maxLen; omega) (by omega)
  exact ⟨v', w', h1, by unfold Mine; rw [List.length_append, bv_append]; exact h2, (Ext.refl w).more h3 (fun k e => by cases e)⟩
theorem wpList_append_full9 {ops : Array Oper} {rest : List Oper} {op : Oper} {a : Act} {w : World} {Q : Exit → Act → World → Prop} (hgd : op.guard = none) (s x : Operand)
    (ho : op.op = .call { callee := .builtin .append, args := #[s, x], argTypes := #[22, 22] })
    (b o n : Nat) (l m : List Nat) (hs : a.eval s = .slice (some ⟨b, o, none⟩) n n) (hn : l.length = n) (hr : Rd w (some ⟨b, o, none⟩) l) (A : Addr) (c k : Nat) (hx : a.eval x = .slice (some A) k c) (hk : m.length = k) (hm : Rd w (some A) m) (h0 : 0 < m.length)
    (hlen : l.length + m.length ≤ 1099511627776)
    (h : ∀ v' w', Mine w' w.heap.size v' (l ++ m) → Ext w w' → wpList Try.prog ops Q rest (a.put op.dst v') w') : wpList Try.prog ops Q (op :: rest) a w := by
  subst hk
  refine wpList_plain hgd fun K hK => ?_
  obtain ⟨v', w', hrun, h2, h3⟩ := run_append_full9 w op.type b o n c l m hn hr A hm h0 hlen
  unfold Oper.wp execOp
  simp only [ho, resolve, invoke, builtin, Sem.run_bind, Sem.run_pure, Result.andThen_ok, List.map_toArray, List.map_cons, List.map_nil, hs, hx, hrun]
  exact hK _ _ (h v' w' h2 h3)
/-- An append to a literal of no bytes: what was there stays. -/
theorem run_append_new (w : World) (base : Nat) (ty : TypeId) (g : Nat) (m : List Nat) (hown : Mine w base (.slice (some ⟨g, 0, none⟩) 0 0) []) (A : Option Addr) (c : Nat) (hr : Rd w A m) (hlen : m.length ≤ 1099511627776) (hbase : base ≤ w.heap.size) :
    ∃ v' w', (Builtin.append_ #[22, 22] ty #[.slice (some ⟨g, 0, none⟩) 0 0, .slice A m.length c]).run Try.prog w = .ok v' w' ∧ Mine w' base v' m ∧ Ext w w' ∧ ∀ q, v'.ownBlock = some q → q = g ∨ w.heap.size ≤ q := by
  rcases Nat.eq_zero_or_pos m.length with h0 | h0
  · have : m = [] := List.eq_nil_of_length_eq_zero h0
    subst this
    obtain ⟨i0, hi, hz0, hz1, hz2⟩ := info_parts u8_info
    refine ⟨_, w, ?_, hown, Ext.refl _, fun q hq => .inl (by injection hq with hq; exact hq.symm)⟩
    cases A <;> simp [Builtin.append_, run_underlying Try.underlying22, sizeOf, typeInfo, hi, Builtin.lenOf, Builtin.firstCells, storeCells, loadCells, loadCellsFrom]
  · obtain ⟨b, o, rfl, _⟩ := hr.addr h0
    obtain ⟨v', w', h1, h2, h3⟩ := run_append_full9 w ty g 0 0 c [] m rfl (Rd.nil _ _) ⟨b, o, none⟩ hr h0 (by simpa using hlen)
    exact ⟨v', w', h1, (by simpa using h2.down hbase), h3, fun q hq => .inr (h2.block q hq).1⟩
theorem wpList_append_new {ops : Array Oper} {rest : List Oper} {op : Oper} {a : Act} {w : World} {Q : Exit → Act → World → Prop} (hgd : op.guard = none) (s x : Operand)
    (ho : op.op = .call { callee := .builtin .append, args := #[s, x], argTypes := #[22, 22] })
    (base g : Nat) (m : List Nat) (hs : a.eval s = .slice (some ⟨g, 0, none⟩) 0 0) (hown : Mine w base (.slice (some ⟨g, 0, none⟩) 0 0) []) (A : Option Addr) (n c : Nat) (hx : a.eval x = .slice A n c) (hn : m.length = n) (hr : Rd w A m)
    (hlen : m.length ≤ 1099511627776) (hbase : base ≤ w.heap.size)
    (h : ∀ v' w', Mine w' base v' m → Ext w w' → (∀ q, v'.ownBlock = some q → q = g ∨ w.heap.size ≤ q) → wpList Try.prog ops Q rest (a.put op.dst v') w') : wpList Try.prog ops Q (op :: rest) a w := by
  subst hn
  refine wpList_plain hgd fun K hK => ?_
  obtain ⟨v', w', hrun, h2, h3, h4⟩ := run_append_new w base op.type g m hown A c hr hlen hbase
  unfold Oper.wp execOp
  simp only [ho, resolve, invoke, builtin, Sem.run_bind, Sem.run_pure, Result.andThen_ok, List.map_toArray, List.map_cons, List.map_nil, hs, hx, hrun]
  exact hK _ _ (h v' w' h2 h3 h4)
end Go.Proofs.Ytfbnckecfapakaa

/-
  A region that draws its order, by an invariant: what holds of the listed operations, whichever they are, is kept by each operation that may come up next. Conditions: each operation waits for operations ahead of it in the text alone; of no program in particular.
-/
namespace Go.Proofs.Ytfbnckecfapakaa
open Go

section
variable {P : Program} {ops : Array Oper} {Q : Exit → Act → World → Prop}

theorem Oper.wp_then {o : Oper} {a : Act} {w : World} {K K' : Act → World → Prop} (h : ∀ a w, K' a w → K a w) (hh : o.wp P a w K' (Exit.then K Q)) : o.wp P a w K Q := by
  unfold Oper.wp at *
  generalize (execOp a.eval o).run P w = r at *
  cases r with
  | ok n w' =>
    cases n <;> simp only [Oper.upon] at hh ⊢ <;>
      first
        | exact h _ _ hh
        | exact Calls.mono hh (fun e w'' he => by cases e <;> first | exact h _ _ he | exact he)
        | exact Rows.mono hh (fun _ _ he => h _ _ he)
  | halt x w' => cases x <;> simp only [Oper.upon] at hh ⊢ <;> exact hh
theorem wpOp_of_one {i : Nat} {o : Oper} {a : Act} {w : World} {K : Act → World → Prop} (hi : ops[i]? = some o) (h : wpList P ops (Exit.then K Q) [o] a w) : wpOp P ops Q i K a w := by
  unfold wpOp
  rw [hi]
  simp only
  unfold wpList at h
  split
  · rename_i hw
    rw [if_pos hw] at h
    rcases h with h | h
    · exact .inl (Oper.wp_then (fun a w h => by unfold wpList at h; exact h) h)
    · exact .inr h
  · rename_i hw
    rw [if_neg hw] at h
    unfold wpList at h
    exact h
def depsB (l : List Oper) : Bool := (List.range l.length).all fun i => match l[i]? with | some o => o.after.all (fun e => decide (e.on < i)) | none => true
theorem depsB_spec {l : List Oper} (h : depsB l = true) {i : Nat} {o : Oper} (hi : l[i]? = some o) : ∀ e ∈ o.after, e.on < i := by
  have hlt : i < l.length := (List.getElem?_eq_some_iff.1 hi).1
  have h1 := List.all_eq_true.1 h i (List.mem_range.2 hlt)
  rw [hi] at h1
  intro e he
  have h2 := (Array.all_eq_true_iff_forall_mem.1 h1) e he
  simpa using h2
theorem getD_true_of {L : Array Bool} {k : Nat} (h : L.getD k false = true) : L.getD k true = true := by
  rw [Array.getD_eq_getD_getElem?] at h ⊢
  cases hk : L[k]? with
  | none => rfl
  | some b => rw [hk] at h; exact h
theorem getD_false_of {L : Array Bool} {k : Nat} (hk : k < L.size) (h : L.getD k true = true) : L.getD k false = true := by
  rw [Array.getD_eq_getD_getElem?] at h ⊢
  rw [Array.getElem?_eq_getElem hk] at h ⊢
  exact h
theorem getD_listed (L : Array Bool) (i j : Nat) : (L.setIfInBounds i true).getD j true = (j == i || L.getD j true) := by
  by_cases e : j = i
  · subst e
    rw [Array.getD_eq_getD_getElem?, Array.getElem?_setIfInBounds_self]
    split <;> simp
  · rw [getD_set_ne true (fun h => e h.symm), show (j == i) = false from beq_eq_false_iff_ne.2 e, Bool.false_or]

theorem wpAny_inv {l : List Oper} (I : (Nat → Bool) → Act → World → Prop) (hB : depsB l = true)
    (hs : ∀ i o, l[i]? = some o → ∀ L a w, I L a w → L i = false → (∀ e ∈ o.after, Region.binds .any e = true → L e.on = true) → wpList P l.toArray (Exit.then (fun a' w' => I (fun j => j == i || L j) a' w') Q) [o] a w)
    (he : ∀ L a w, (∀ i, i < l.length → L i = true) → I L a w → Q .normal a w) :
    ∀ (f : Nat) (L : Array Bool) (a : Act) (w : World) (U : List Nat), L.size = l.length → U.length = f → (∀ i, L.getD i true = false → i ∈ U) → I (fun i => L.getD i true) a w → wpAny P .any l.toArray Q f L a w := by
  have hall : ∀ L : Array Bool, L.size = l.length → Region.ready .any l.toArray L = [] → ∀ i, i < l.length → L.getD i true = true := fun L hsz hr i => by
    induction i using Nat.strongRecOn with
    | _ i ih =>
      intro hi
      cases hb : L.getD i true with
      | true => rfl
      | false =>
        have hoi : l.toArray[i]? = some l[i] := by simp [hi]
        have hm : i ∈ Region.ready .any l.toArray L := mem_ready.2 ⟨hb, _, hoi, fun e hee _ => by
          have hlt := depsB_spec hB (i := i) (o := l[i]) (by simp [hi]) e hee
          exact getD_false_of (by omega) (ih e.on hlt (by omega))⟩
        rw [hr] at hm
        cases hm
  intro f
  induction f with
  | zero =>
    intro L a w U hsz hU hin hI
    have hU0 : U = [] := List.eq_nil_of_length_eq_zero hU
    subst hU0
    have hL : ∀ i, L.getD i true = true := fun i => by
      cases hb : L.getD i true with
      | true => rfl
      | false => exact absurd (hin i hb) (by simp)
    refine ⟨?_, he _ a w (fun i _ => hL i) hI⟩
    rcases hr : Region.ready .any l.toArray L with _ | ⟨i, r⟩
    · rfl
    · have hm : i ∈ Region.ready .any l.toArray L := by rw [hr]; simp
      have := (mem_ready.1 hm).1
      rw [hL i] at this
      cases this
  | succ f ih =>
    intro L a w U hsz hU hin hI
    refine ⟨fun hr => he _ a w (hall L hsz hr) hI, fun i hi => ?_⟩
    obtain ⟨hun, o, ho, haft⟩ := mem_ready.1 hi
    have ho' : l[i]? = some o := by simpa using ho
    have h1 := hs i o ho' _ a w hI hun (fun e hee hb => getD_true_of (haft e hee hb))
    have hU' : (U.erase i).length = f := by rw [List.length_erase_of_mem (hin i hun)]; omega
    refine wpOp_mono (fun a' w' hI' => ?_) (wpOp_of_one ho h1)
    refine ih _ a' w' (U.erase i) (by simpa using hsz) hU' (fun j hj => ?_) ?_
    · rw [getD_listed, Bool.or_eq_false_iff] at hj
      exact (List.mem_erase_of_ne (by simpa using hj.1)).2 (hin j hj.2)
    · simp only [getD_listed]
      exact hI'
theorem wp_region_inv {id : Nat} {a : Act} {w : World} {l : List Oper} (I : (Nat → Bool) → Act → World → Prop) (hm : P.follows .mixedOrders = true) (hB : depsB l = true) (h0 : I (fun i => !decide (i < l.length)) a w.drew)
    (hs : ∀ i o, l[i]? = some o → ∀ L a w, I L a w → L i = false → (∀ e ∈ o.after, Region.binds .any e = true → L e.on = true) → wpList P l.toArray (Exit.then (fun a' w' => I (fun j => j == i || L j) a' w') Q) [o] a w)
    (he : ∀ L a w, (∀ i, i < l.length → L i = true) → I L a w → wpList P l.toArray Q [] a w) : (Code.region id l.toArray true).wp P Q a w := by
  have e0 : (fun i => (Array.replicate l.toArray.size false).getD i true) = fun i => !decide (i < l.length) := by
    funext i
    rw [Array.getD_eq_getD_getElem?, Array.getElem?_replicate]
    by_cases h : i < l.length <;> simp [h]
  refine wp_region_any hm ?_
  refine wpAny_inv I hB hs he l.toArray.size _ a _ (List.range l.length) (by simp) (by simp) (fun i hi => ?_) (by rw [e0]; exact h0)
  have h1 := congrFun e0 i
  rw [hi] at h1
  exact List.mem_range.2 (by simpa using h1.symm)
end
end Go.Proofs.Ytfbnckecfapakaa

/-
  A region that draws its order, some of whose operations only read what stays: these may be taken ahead of the others, and the others come one after the other. Conditions: a check of the region's text (by the kernel); of no program in particular.
-/
namespace Go.Proofs.Ytfbnckecfapakaa
open Go

section
variable {P : Program} {ops : Array Oper} {Q : Exit → Act → World → Prop} {md : Region.Mode} {C : World → Prop}

/-- In every world of the class the operation yields v and leaves the world alone. -/
def YieldsC (P : Program) (ops : Array Oper) (C : World → Prop) (o : Oper) (v : Value) (a : Act) : Prop :=
  (Region.wanted o (yielded ops a.tmps) = true ∧ ∀ w, C w → (execOp a.eval o).run P w = .ok (.value v) w) ∨ (Region.wanted o (yielded ops a.tmps) = false ∧ v = undef) ∨
    (Region.wanted o (yielded ops a.tmps) = true ∧ ∃ f args, (∀ w, C w → (execOp a.eval o).run P w = .ok (.enter f args) w) ∧ ∀ w, C w → Calls P f args w (fun e w' => e = .returned v ∧ w = w'))
theorem YieldsC.wpOp {i : Nat} {o : Oper} {v : Value} {a : Act} (hi : ops[i]? = some o) (hy : YieldsC P ops C o v a) {K : Act → World → Prop} {w : World} (hw : C w) (h : K (a.put o.dst v) w) : wpOp P ops Q i K a w := by
  unfold Go.wpOp
  simp only [hi]
  rcases hy with ⟨hg, hv⟩ | ⟨hg, rfl⟩ | ⟨hg, f, args, hv, hc⟩
  · simp only [hg, if_true, Oper.wp, hv w hw, Oper.upon]; exact .inl h
  · simp only [hg, Bool.false_eq_true, if_false]; exact h
  · simp only [hg, if_true, Oper.wp, hv w hw, Oper.upon]
    refine .inl (Calls.mono (hc w hw) ?_)
    rintro e w' ⟨rfl, rfl⟩
    exact h
theorem YieldsC.of_same {o : Oper} {v : Value} {a a' : Act} (hy : YieldsC P ops C o v a) (he : execOp a'.eval o = execOp a.eval o) (hw : Region.wanted o (yielded ops a'.tmps) = Region.wanted o (yielded ops a.tmps)) : YieldsC P ops C o v a' := by
  unfold YieldsC at *
  rw [he, hw]
  exact hy
theorem wpOp_putC {j : Nat} {oi oj : Oper} {v : Value} (hj : ops[j]? = some oj) (hap : oi.apart ops oj = true) (hsi : ∀ cs b, oi.op ≠ .select cs b) (hsj : ∀ cs b, oj.op ≠ .select cs b)
    (hQ : ∀ c a w, Q (.panic c) (a.put oi.dst v) w → Q (.panic c) a w) {K : Act → World → Prop} {a : Act} {w : World} (hy : YieldsC P ops C oi v a) (h : wpOp P ops Q j K (a.put oi.dst v) w) :
    wpOp P ops Q j (fun a' w' => YieldsC P ops C oi v a' ∧ K (a'.put oi.dst v) w') a w := by
  obtain ⟨h1, h2, h3⟩ := Oper.apart_spec hap
  have keep : ∀ (a : Act), YieldsC P ops C oi v a → ∀ u, YieldsC P ops C oi v (a.put oj.dst u) := fun a hy u => hy.of_same (execOp_put oi hsi a oj.dst u h3) (wanted_put oi a oj.dst u h3)
  have keepD : ∀ d, YieldsC P ops C oi v { a with defers := d :: a.defers } := fun d => hy.of_same rfl rfl
  unfold wpOp at *
  simp only [hj] at *
  rw [wanted_put oj a oi.dst v h1] at h
  split
  · rename_i hw
    simp only [hw, if_true] at h
    rcases h with h | ⟨hasks, hlets⟩
    case inr => exact .inr ⟨by unfold Oper.asks at *; rw [execOp_put oj hsj a oi.dst v h1] at hasks; exact hasks, hlets⟩
    refine .inl ?_
    unfold Oper.wp at *
    rw [execOp_put oj hsj a oi.dst v h1] at h
    generalize (execOp a.eval oj).run P w = r at *
    cases r with
    | ok n w' =>
      cases n <;> simp only [Oper.upon] at h ⊢
      case value u => exact ⟨keep a hy u, by rw [← Act.put_comm a v u h2]; exact h⟩
      case skip => exact ⟨keep a hy _, by rw [← Act.put_comm a v undef h2]; exact h⟩
      case defer d =>
        refine ⟨keep _ (keepD d) _, ?_⟩
        rw [← Act.put_comm _ v undef h2, ← Act.put_defers]
        exact h
      case enter f args =>
        refine Calls.mono h fun e w'' he => ?_
        cases e with
        | returned u => exact ⟨keep a hy u, by rw [← Act.put_comm a v u h2]; exact he⟩
        | panicked c => exact hQ _ _ _ he
        | outgrown => exact he
      case row row args => exact Rows.mono h fun u w'' he => ⟨keep a hy u, by rw [← Act.put_comm a v u h2]; exact he⟩
    | halt x w' =>
      cases x <;> simp only [Oper.upon] at h ⊢
      case panic u => exact hQ _ _ _ h
  · rename_i hw
    simp only [hw] at h
    exact ⟨keep a hy _, by rw [← Act.put_comm a v undef h2]; exact h⟩

/-- As wpAny, and the operations of F leave the world in the class. -/
def wpAnyC (P : Program) (md : Region.Mode) (ops : Array Oper) (C : World → Prop) (F : Nat → Bool) (Q : Exit → Act → World → Prop) : Nat → Array Bool → Act → World → Prop
  | 0, listed, a, w => Region.ready md ops listed = [] ∧ Q .normal a w
  | fuel + 1, listed, a, w => (Region.ready md ops listed = [] → Q .normal a w) ∧ ∀ i ∈ Region.ready md ops listed, wpOp P ops Q i (fun a' w' => (F i = true → C w') ∧ wpAnyC P md ops C F Q fuel (listed.setIfInBounds i true) a' w') a w
theorem wpAny_of_C {F : Nat → Bool} : ∀ (fuel : Nat) (listed : Array Bool) (a : Act) (w : World), wpAnyC P md ops C F Q fuel listed a w → wpAny P md ops Q fuel listed a w
  | 0, _, _, _, h => h
  | fuel + 1, _, _, _, h => ⟨h.1, fun i hi => wpOp_mono (fun a' w' h' => wpAny_of_C fuel _ a' w' h'.2) (h.2 i hi)⟩
/-- What is listed waits for nothing that is not. -/
def Closed (md : Region.Mode) (ops : Array Oper) (listed : Array Bool) : Prop := ∀ j oj, ops[j]? = some oj → listed.getD j false = true → ∀ e ∈ oj.after, Region.binds md e = true → listed.getD e.on false = true
theorem Closed.set {listed : Array Bool} (h : Closed md ops listed) {i : Nat} (hi : i ∈ Region.ready md ops listed) : Closed md ops (listed.setIfInBounds i true) := fun j oj hoj hl e he hb => by
  by_cases hji : j = i
  · subst hji
    obtain ⟨_, o, ho, hall⟩ := mem_ready.1 hi
    rw [hoj] at ho
    injection ho with ho
    subst ho
    exact getD_set_true (hall e he hb)
  · rw [getD_set_ne false (fun h => hji h.symm)] at hl
    exact getD_set_true (h j oj hoj hl e he hb)
/-- What stands behind i; what is not of F does. -/
def bhStep (md : Region.Mode) (ops : Array Oper) (i : Nat) (acc : List Nat) (j : Nat) : List Nat :=
  match ops[j]? with
  | some oj => if oj.after.any (fun e => Region.binds md e && (e.on == i || acc.contains e.on)) then j :: acc else acc
  | none => acc
def behindB (md : Region.Mode) (ops : Array Oper) (F : Nat → Bool) (i : Nat) : Bool :=
  (List.range ops.size).all fun j => j == i || F j || ((List.range ops.size).foldl (bhStep md ops i) []).contains j
theorem bh_fold {i : Nat} {listed : Array Bool} (hc : Closed md ops listed) (hi : listed.getD i false = false) : ∀ (l acc : List Nat), (∀ j ∈ acc, listed.getD j false = false ∧ j ∉ Region.ready md ops listed) →
    ∀ j ∈ l.foldl (bhStep md ops i) acc, listed.getD j false = false ∧ j ∉ Region.ready md ops listed
  | [], acc, h => h
  | k :: l, acc, h => by
    refine bh_fold hc hi l (bhStep md ops i acc k) ?_
    unfold bhStep
    cases hk : ops[k]? with
    | none => exact h
    | some ok =>
      simp only
      split
      · rename_i hany
        intro j hj
        rcases List.mem_cons.1 hj with e | e
        · subst e
          obtain ⟨e, he, hb⟩ := Array.any_eq_true'.1 hany
          simp only [Bool.and_eq_true, Bool.or_eq_true, beq_iff_eq] at hb
          have hno : listed.getD e.on false = false := by
            rcases hb.2 with h2 | h2
            · rw [h2]; exact hi
            · exact (h e.on (by simpa using h2)).1
          constructor
          · cases hl : listed.getD j false with
            | false => rfl
            | true =>
              have := hc j ok hk hl e he hb.1
              rw [hno] at this
              cases this
          · intro hr
            obtain ⟨_, o, ho, hall⟩ := mem_ready.1 hr
            rw [hk] at ho
            injection ho with ho
            subst ho
            have := hall e he hb.1
            rw [hno] at this
            cases this
        · exact h j e
      · exact h
theorem behind_not {F : Nat → Bool} {i : Nat} (hB : behindB md ops F i = true) {listed : Array Bool} (hc : Closed md ops listed) (hi : listed.getD i false = false) :
    ∀ j, j < ops.size → j ≠ i → F j = false → listed.getD j false = false ∧ j ∉ Region.ready md ops listed := fun j hj hji hF => by
  have h1 := List.all_eq_true.1 hB j (List.mem_range.2 hj)
  simp only [hF, Bool.or_false, Bool.or_eq_true, beq_iff_eq, hji, false_or] at h1
  exact bh_fold hc hi _ [] (fun _ h => absurd h (by simp)) j (by simpa using h1)

theorem wpAnyC_first {F : Nat → Bool} {i : Nat} {oi : Oper} {v : Value} (hi : ops[i]? = some oi) (hsel : ∀ (j : Nat) (o : Oper) cs b, ops[j]? = some o → o.op ≠ .select cs b)
    (hQ : ∀ c a w, Q (.panic c) (a.put oi.dst v) w → Q (.panic c) a w) (hB : behindB md ops F i = true) :
    ∀ (fuel : Nat) (listed : Array Bool) (a : Act) (w : World), C w → Closed md ops listed →
      (∀ j oj, ops[j]? = some oj → j ≠ i → listed.getD j true = false → (∀ e ∈ oj.after, Region.binds md e = true → e.on ≠ i) → oi.apart ops oj = true) →
      i ∈ Region.ready md ops listed → YieldsC P ops C oi v a →
      wpAnyC P md ops C F Q fuel (listed.setIfInBounds i true) (a.put oi.dst v) w → wpAnyC P md ops C F Q (fuel + 1) listed a w := by
  intro fuel
  induction fuel with
  | zero =>
    intro listed a w hC _ _ hr hy H
    refine ⟨fun h => (by rw [h] at hr; cases hr), fun j hj => ?_⟩
    by_cases hji : j = i
    · subst hji; exact hy.wpOp hi hC ⟨fun _ => hC, H⟩
    · have := ready_mono hj hji
      rw [H.1] at this
      cases this
  | succ fuel ih =>
    intro listed a w hC hcl hfree hr hy H
    refine ⟨fun h => (by rw [h] at hr; cases hr), fun j hj => ?_⟩
    by_cases hji : j = i
    · subst hji; exact hy.wpOp hi hC ⟨fun _ => hC, H⟩
    · have h1 := H.2 j (ready_mono hj hji)
      obtain ⟨hjun, oj, hoj, hall⟩ := mem_ready.1 hj
      have hiun := (mem_ready.1 hr).1
      have hnot : ∀ e ∈ oj.after, Region.binds md e = true → e.on ≠ i := fun e he hb heq => by
        have h1 := hall e he hb
        rw [heq, getD_both hiun] at h1
        cases h1
      have hFj : F j = true := by
        cases hF : F j with
        | true => rfl
        | false => exact absurd hj (behind_not hB hcl (getD_both hiun) j (Array.getElem?_eq_some_iff.1 hoj).1 hji hF).2
      have h2 := wpOp_putC hoj (hfree j oj hoj hji hjun hnot) (fun cs b => hsel i oi cs b hi) (fun cs b => hsel j oj cs b hoj) hQ hy h1
      have hfree' : ∀ k ok, ops[k]? = some ok → k ≠ i → (listed.setIfInBounds j true).getD k true = false →
          (∀ e ∈ ok.after, Region.binds md e = true → e.on ≠ i) → oi.apart ops ok = true := fun k ok hk hki hun hno => by
        refine hfree k ok hk hki ?_ hno
        by_cases hjk : j = k
        · subst hjk; exact hjun
        · rw [getD_set_ne true hjk] at hun; exact hun
      refine wpOp_mono (fun a' w' h3 => ⟨fun _ => h3.2.1 hFj, ih (listed.setIfInBounds j true) a' w' (h3.2.1 hFj) (hcl.set hj) hfree' (ready_mono hr (Ne.symm hji)) h3.1 ?_⟩) h2
      rw [Array.setIfInBounds_comm _ _ hji]
      exact h3.2.2

/-- The walk: an operation that only reads what stays (true), or the only one that may come up (false). -/
def wpStab (P : Program) (l : List Oper) (C : World → Prop) (F : Nat → Bool) (Q : Exit → Act → World → Prop) : List (Nat × Bool) → Act → World → Prop
  | [], a, w => wpList P l.toArray Q [] a w
  | (i, true) :: π, a, w => ∃ o v, l[i]? = some o ∧ YieldsC P l.toArray C o v a ∧ wpStab P l C F Q π (a.put o.dst v) w
  | (i, false) :: π, a, w => ∃ o, l[i]? = some o ∧ wpList P l.toArray (Exit.then (fun a' w' => (F i = true → C w') ∧ wpStab P l C F Q π a' w') Q) [o] a w
theorem stab_yes {F : Nat → Bool} {l : List Oper} {i : Nat} {o : Oper} {π : List (Nat × Bool)} {a : Act} {w : World} (ho : l[i]? = some o)
    (h : ∀ K : Act → Prop, (∀ a', wpStab P l C F Q π a' w → K a') → Region.wanted o (yielded l.toArray a.tmps) = true ∧ ∃ v, (∀ W, C W → (execOp a.eval o).run P W = .ok (.value v) W) ∧ K (a.put o.dst v)) : wpStab P l C F Q ((i, true) :: π) a w := by
  obtain ⟨h1, v, h2, h3⟩ := h (fun a' => wpStab P l C F Q π a' w) (fun _ h => h)
  exact ⟨o, v, ho, .inl ⟨h1, h2⟩, h3⟩
theorem stab_call {F : Nat → Bool} {l : List Oper} {i : Nat} {o : Oper} {π : List (Nat × Bool)} {a : Act} {w : World} (ho : l[i]? = some o)
    (h : ∀ K : Act → Prop, (∀ a', wpStab P l C F Q π a' w → K a') → Region.wanted o (yielded l.toArray a.tmps) = true ∧ ∃ f args v, (∀ W, C W → (execOp a.eval o).run P W = .ok (.enter f args) W) ∧ (∀ W, C W → Calls P f args W (fun e w' => e = .returned v ∧ W = w')) ∧ K (a.put o.dst v)) : wpStab P l C F Q ((i, true) :: π) a w := by
  obtain ⟨h1, f, args, v, h2, h3, h4⟩ := h (fun a' => wpStab P l C F Q π a' w) (fun _ h => h)
  exact ⟨o, v, ho, .inr (.inr ⟨h1, f, args, h2, h3⟩), h4⟩
theorem stab_one {F : Nat → Bool} {l : List Oper} {i : Nat} {o : Oper} {π : List (Nat × Bool)} {a : Act} {w : World} (ho : l[i]? = some o)
    (h : ∀ K : Act → World → Prop, (∀ a' w', (F i = true → C w') ∧ wpStab P l C F Q π a' w' → K a' w') → wpList P l.toArray (Exit.then K Q) [o] a w) : wpStab P l C F Q ((i, false) :: π) a w :=
  ⟨o, ho, h _ (fun _ _ h => h)⟩
/-- The check: c says whether the world is in the class. -/
def stabB (md : Region.Mode) (ops : Array Oper) (F : Nat → Bool) : Bool → List (Nat × Bool) → Array Bool → Bool
  | _, [], listed => (Region.ready md ops listed).isEmpty
  | c, (i, true) :: π, listed => c && (Region.ready md ops listed).contains i && Region.free md ops listed i && behindB md ops F i && stabB md ops F c π (listed.setIfInBounds i true)
  | c, (i, false) :: π, listed => (Region.ready md ops listed == [i]) && stabB md ops F (c && F i) π (listed.setIfInBounds i true)
theorem wpAnyC_of_stab {F : Nat → Bool} {l : List Oper} (hsel : Region.noSelect l.toArray = true) (hQ : ∀ c a a' w, a.defers = a'.defers → Q (.panic c) a w → Q (.panic c) a' w) :
    ∀ (π : List (Nat × Bool)) (c : Bool) (listed : Array Bool) (a : Act) (w : World), (c = true → C w) → Closed md l.toArray listed → stabB md l.toArray F c π listed = true → wpStab P l C F Q π a w → wpAnyC P md l.toArray C F Q π.length listed a w
  | [], _, listed, a, w, _, _, hB, h => ⟨by simpa [stabB] using hB, h⟩
  | (i, true) :: π, c, listed, a, w, hC, hcl, hB, h => by
    obtain ⟨o, v, ho0, hy, hK⟩ := h
    have ho : l.toArray[i]? = some o := by simpa using ho0
    simp only [stabB, Bool.and_eq_true] at hB
    obtain ⟨⟨⟨⟨hc, hr⟩, hf⟩, hb⟩, hrest⟩ := hB
    have hr' : i ∈ Region.ready md l.toArray listed := by simpa using hr
    exact wpAnyC_first ho (Region.noSelect_spec hsel) (fun ch a w h => hQ ch _ _ w (by cases o.dst <;> rfl) h) hb π.length listed a w (hC hc) hcl (Region.free_spec ho hf) hr' hy
      (wpAnyC_of_stab hsel hQ π c _ _ _ hC (hcl.set hr') hrest hK)
  | (i, false) :: π, c, listed, a, w, hC, hcl, hB, h => by
    obtain ⟨o, ho0, hK⟩ := h
    have ho : l.toArray[i]? = some o := by simpa using ho0
    simp only [stabB, Bool.and_eq_true] at hB
    obtain ⟨hr, hrest⟩ := hB
    have hr1 : Region.ready md l.toArray listed = [i] := by simpa using hr
    have hr' : i ∈ Region.ready md l.toArray listed := by rw [hr1]; simp
    refine ⟨fun h0 => absurd h0 (by rw [hr1]; simp), fun j hj => ?_⟩
    obtain rfl : j = i := by rw [hr1] at hj; simpa using hj
    refine wpOp_mono (fun a' w' h' => ⟨h'.1, wpAnyC_of_stab hsel hQ π (c && F j) _ a' w' (fun hcf => ?_) (hcl.set hr') hrest h'.2⟩) (wpOp_of_one ho hK)
    rw [Bool.and_eq_true] at hcf
    exact h'.1 hcf.2
theorem wp_region_stab {id : Nat} {a : Act} {w : World} {l : List Oper} (C : World → Prop) (F : List Nat) (π : List (Nat × Bool)) (hm : P.follows .mixedOrders = true) (hQ : ∀ c a a' w, a.defers = a'.defers → Q (.panic c) a w → Q (.panic c) a' w)
    (hB : (Region.noSelect l.toArray && (π.length == l.length) && stabB .any l.toArray (fun i => F.contains i) true π (Array.replicate l.length false)) = true) (hC : C w.drew) (h : wpStab P l C (fun i => F.contains i) Q π a w.drew) : (Code.region id l.toArray true).wp P Q a w := by
  simp only [Bool.and_eq_true, beq_iff_eq] at hB
  obtain ⟨⟨hsel, hlen⟩, hst⟩ := hB
  refine wp_region_any hm (wpAny_of_C (C := C) (F := fun i => F.contains i) _ _ _ _ ?_)
  have h1 := wpAnyC_of_stab (P := P) (Q := Q) (C := C) (md := .any) hsel hQ π true (Array.replicate l.length false) a w.drew (fun _ => hC) (fun j oj _ hl => by rw [getD_replicate_false] at hl; cases hl) hst h
  rw [hlen] at h1
  have hsz : l.toArray.size = l.length := by simp
  rw [hsz]
  exact h1
end
/-- Two cells, and what they hold. -/
def Two (p : Addr) (v : Value) (q : Addr) (u : Value) (W : World) : Prop := W.cell? p = some v ∧ W.cell? q = some u
end Go.Proofs.Ytfbnckecfapakaa

/-
  A region that draws its order, walked by a plan: operations that only read what stays are taken ahead, one that alone may come up comes up, and where two or three may come up next each of them is walked. Conditions: a check of the region's text (by the kernel); of no program in particular.
-/
namespace Go.Proofs.Ytfbnckecfapakaa
open Go

/-- A plan: the end; an operation that only reads what stays; the only one that may come up; one of two; one of three. -/
inductive Plan where
  | done : Plan
  | yes : Nat → Plan → Plan
  | one : Nat → Plan → Plan
  | two : Nat → Plan → Nat → Plan → Plan
  | three : Nat → Plan → Nat → Plan → Nat → Plan → Plan

section
variable {P : Program} {Q : Exit → Act → World → Prop} {md : Region.Mode} {C : World → Prop}
/-- Operation i, and then K. -/
def wpStepP (P : Program) (l : List Oper) (Q : Exit → Act → World → Prop) (i : Nat) (K : Act → World → Prop) (a : Act) (w : World) : Prop :=
  ∃ o, l[i]? = some o ∧ wpList P l.toArray (Exit.then K Q) [o] a w
/-- The walk by a plan. -/
def wpPlan (P : Program) (l : List Oper) (C : World → Prop) (F : Nat → Bool) (Q : Exit → Act → World → Prop) : Plan → Act → World → Prop
  | .done, a, w => wpList P l.toArray Q [] a w
  | .yes i p, a, w => ∃ o v, l[i]? = some o ∧ YieldsC P l.toArray C o v a ∧ wpPlan P l C F Q p (a.put o.dst v) w
  | .one i p, a, w => wpStepP P l Q i (fun a' w' => (F i = true → C w') ∧ wpPlan P l C F Q p a' w') a w
  | .two i p j q, a, w => wpStepP P l Q i (fun a' w' => (F i = true → C w') ∧ wpPlan P l C F Q p a' w') a w ∧ wpStepP P l Q j (fun a' w' => (F j = true → C w') ∧ wpPlan P l C F Q q a' w') a w
  | .three i p j q k r, a, w => wpStepP P l Q i (fun a' w' => (F i = true → C w') ∧ wpPlan P l C F Q p a' w') a w ∧ wpStepP P l Q j (fun a' w' => (F j = true → C w') ∧ wpPlan P l C F Q q a' w') a w ∧ wpStepP P l Q k (fun a' w' => (F k = true → C w') ∧ wpPlan P l C F Q r a' w') a w
theorem plan_yes {F : Nat → Bool} {l : List Oper} {i : Nat} {o : Oper} {π : Plan} {a : Act} {w : World} (ho : l[i]? = some o)
    (h : ∀ K : Act → Prop, (∀ a', wpPlan P l C F Q π a' w → K a') → Region.wanted o (yielded l.toArray a.tmps) = true ∧ ∃ v, (∀ W, C W → (execOp a.eval o).run P W = .ok (.value v) W) ∧ K (a.put o.dst v)) : wpPlan P l C F Q (.yes i π) a w := by
  obtain ⟨h1, v, h2, h3⟩ := h (fun a' => wpPlan P l C F Q π a' w) (fun _ h => h)
  exact ⟨o, v, ho, .inl ⟨h1, h2⟩, h3⟩
theorem plan_call {F : Nat → Bool} {l : List Oper} {i : Nat} {o : Oper} {π : Plan} {a : Act} {w : World} (ho : l[i]? = some o)
    (h : ∀ K : Act → Prop, (∀ a', wpPlan P l C F Q π a' w → K a') → Region.wanted o (yielded l.toArray a.tmps) = true ∧ ∃ f args v, (∀ W, C W → (execOp a.eval o).run P W = .ok (.enter f args) W) ∧ (∀ W, C W → Calls P f args W (fun e w' => e = .returned v ∧ W = w')) ∧ K (a.put o.dst v)) : wpPlan P l C F Q (.yes i π) a w := by
  obtain ⟨h1, f, args, v, h2, h3, h4⟩ := h (fun a' => wpPlan P l C F Q π a' w) (fun _ h => h)
  exact ⟨o, v, ho, .inr (.inr ⟨h1, f, args, h2, h3⟩), h4⟩
theorem plan_load {F : Nat → Bool} {l : List Oper} {i : Nat} {o : Oper} {π : Plan} {a : Act} {w : World} (ho : l[i]? = some o) (ty : TypeId) (x : Operand) (hop : o.op = .load ty x) (v : Value)
    (hw : Region.wanted o (yielded l.toArray a.tmps) = true) (hrun : ∀ W, C W → (Instr.loadAt ty (a.eval x)).run P W = .ok v W) (h : wpPlan P l C F Q π (a.put o.dst v) w) : wpPlan P l C F Q (.yes i π) a w :=
  plan_yes ho (fun _ hK => ⟨hw, v, fun W hW => by simp only [execOp, hop, Sem.run_bind, hrun W hW, Result.andThen, Sem.run_pure], hK _ h⟩)
theorem plan_toArray {F : Nat → Bool} {l : List Oper} {i : Nat} {o : Oper} {π : Plan} {a : Act} {w : World} (ho : l[i]? = some o) (ty : TypeId) (x : Operand) (hop : o.op = .sliceToArrayPointer ty x) (v : Value)
    (hw : Region.wanted o (yielded l.toArray a.tmps) = true) (hrun : ∀ W, C W → (Instr.arrayAt ty (a.eval x)).run P W = .ok v W) (h : wpPlan P l C F Q π (a.put o.dst v) w) : wpPlan P l C F Q (.yes i π) a w :=
  plan_yes ho (fun _ hK => ⟨hw, v, fun W hW => by simp only [execOp, hop, Sem.run_bind, hrun W hW, Result.andThen, Sem.run_pure], hK _ h⟩)
theorem stepP_of {l : List Oper} {i : Nat} {o : Oper} {a : Act} {w : World} {K : Act → World → Prop} (ho : l[i]? = some o)
    (h : ∀ K' : Act → World → Prop, (∀ a' w', K a' w' → K' a' w') → wpList P l.toArray (Exit.then K' Q) [o] a w) : wpStepP P l Q i K a w := ⟨o, ho, h K (fun _ _ h => h)⟩
theorem plan_one {F : Nat → Bool} {l : List Oper} {i : Nat} {o : Oper} {π : Plan} {a : Act} {w : World} (ho : l[i]? = some o)
    (h : ∀ K : Act → World → Prop, (∀ a' w', (F i = true → C w') ∧ wpPlan P l C F Q π a' w' → K a' w') → wpList P l.toArray (Exit.then K Q) [o] a w) : wpPlan P l C F Q (.one i π) a w := stepP_of ho h
theorem plan_two {F : Nat → Bool} {l : List Oper} {i j : Nat} {o u : Oper} {p q : Plan} {a : Act} {w : World} (ho : l[i]? = some o) (hu : l[j]? = some u)
    (h1 : ∀ K : Act → World → Prop, (∀ a' w', (F i = true → C w') ∧ wpPlan P l C F Q p a' w' → K a' w') → wpList P l.toArray (Exit.then K Q) [o] a w)
    (h2 : ∀ K : Act → World → Prop, (∀ a' w', (F j = true → C w') ∧ wpPlan P l C F Q q a' w' → K a' w') → wpList P l.toArray (Exit.then K Q) [u] a w) : wpPlan P l C F Q (.two i p j q) a w := ⟨stepP_of ho h1, stepP_of hu h2⟩
/-- The check: c says whether the world is in the class; n operations are left. -/
def planB (md : Region.Mode) (ops : Array Oper) (F : Nat → Bool) : Nat → Bool → Plan → Array Bool → Bool
  | 0, _, .done, listed => (Region.ready md ops listed).isEmpty
  | n + 1, c, .yes i p, listed => c && (Region.ready md ops listed).contains i && Region.free md ops listed i && behindB md ops F i && planB md ops F n c p (listed.setIfInBounds i true)
  | n + 1, c, .one i p, listed => (Region.ready md ops listed == [i]) && planB md ops F n (c && F i) p (listed.setIfInBounds i true)
  | n + 1, c, .two i p j q, listed => (Region.ready md ops listed == [i, j]) && planB md ops F n (c && F i) p (listed.setIfInBounds i true) && planB md ops F n (c && F j) q (listed.setIfInBounds j true)
  | n + 1, c, .three i p j q k r, listed => (Region.ready md ops listed == [i, j, k]) && planB md ops F n (c && F i) p (listed.setIfInBounds i true) && planB md ops F n (c && F j) q (listed.setIfInBounds j true) && planB md ops F n (c && F k) r (listed.setIfInBounds k true)
  | _, _, _, _ => false
theorem wpAnyC_of_plan {F : Nat → Bool} {l : List Oper} (hsel : Region.noSelect l.toArray = true) (hQ : ∀ c a a' w, a.defers = a'.defers → Q (.panic c) a w → Q (.panic c) a' w) :
    ∀ (n : Nat) (π : Plan) (c : Bool) (listed : Array Bool) (a : Act) (w : World), (c = true → C w) → Closed md l.toArray listed → planB md l.toArray F n c π listed = true → wpPlan P l C F Q π a w → wpAnyC P md l.toArray C F Q n listed a w := by
  intro n
  induction n with
  | zero =>
    intro π c listed a w hC hcl hB h
    cases π <;> simp only [planB, Bool.false_eq_true] at hB
    exact ⟨by simpa using hB, h⟩
  | succ n ih =>
    have step : ∀ (i : Nat) (p : Plan) (c : Bool) (listed : Array Bool) (a : Act) (w : World), (c = true → C w) → Closed md l.toArray listed → i ∈ Region.ready md l.toArray listed → planB md l.toArray F n (c && F i) p (listed.setIfInBounds i true) = true →
        wpStepP P l Q i (fun a' w' => (F i = true → C w') ∧ wpPlan P l C F Q p a' w') a w → wpOp P l.toArray Q i (fun a' w' => (F i = true → C w') ∧ wpAnyC P md l.toArray C F Q n (listed.setIfInBounds i true) a' w') a w := by
      intro i p c listed a w hC hcl hr hB ⟨o, ho0, hK⟩
      have ho : l.toArray[i]? = some o := by simpa using ho0
      refine wpOp_mono (fun a' w' h' => ⟨h'.1, ih p (c && F i) _ a' w' (fun hcf => ?_) (hcl.set hr) hB h'.2⟩) (wpOp_of_one ho hK)
      rw [Bool.and_eq_true] at hcf
      exact h'.1 hcf.2
    intro π c listed a w hC hcl hB h
    cases π with
    | done => simp [planB] at hB
    | yes i p =>
      obtain ⟨o, v, ho0, hy, hK⟩ := h
      have ho : l.toArray[i]? = some o := by simpa using ho0
      simp only [planB, Bool.and_eq_true] at hB
      obtain ⟨⟨⟨⟨hc, hr⟩, hf⟩, hb⟩, hrest⟩ := hB
      have hr' : i ∈ Region.ready md l.toArray listed := by simpa using hr
      exact wpAnyC_first ho (Region.noSelect_spec hsel) (fun ch a w h => hQ ch _ _ w (by cases o.dst <;> rfl) h) hb n listed a w (hC hc) hcl (Region.free_spec ho hf) hr' hy (ih p c _ _ _ hC (hcl.set hr') hrest hK)
    | one i p =>
      simp only [planB, Bool.and_eq_true] at hB
      have hr : Region.ready md l.toArray listed = [i] := by simpa using hB.1
      refine ⟨fun h0 => absurd h0 (by rw [hr]; simp), fun j hj => ?_⟩
      obtain rfl : j = i := by rw [hr] at hj; simpa using hj
      exact step j p c listed a w hC hcl hj hB.2 h
    | two i p j q =>
      simp only [planB, Bool.and_eq_true] at hB
      have hr : Region.ready md l.toArray listed = [i, j] := by simpa using hB.1.1
      refine ⟨fun h0 => absurd h0 (by rw [hr]; simp), fun k hk => ?_⟩
      have hk' : k = i ∨ k = j := by rw [hr] at hk; simpa using hk
      rcases hk' with rfl | rfl
      · exact step k p c listed a w hC hcl hk hB.1.2 h.1
      · exact step k q c listed a w hC hcl hk hB.2 h.2
    | three i p j q k r =>
      simp only [planB, Bool.and_eq_true] at hB
      have hr : Region.ready md l.toArray listed = [i, j, k] := by simpa using hB.1.1.1
      refine ⟨fun h0 => absurd h0 (by rw [hr]; simp), fun m hm => ?_⟩
      have hm' : m = i ∨ m = j ∨ m = k := by rw [hr] at hm; simpa using hm
      rcases hm' with rfl | rfl | rfl
      · exact step m p c listed a w hC hcl hm hB.1.1.2 h.1
      · exact step m q c listed a w hC hcl hm hB.1.2 h.2.1
      · exact step m r c listed a w hC hcl hm hB.2 h.2.2
theorem wp_region_plan {id : Nat} {a : Act} {w : World} {l : List Oper} (C : World → Prop) (F : List Nat) (π : Plan) (hm : P.follows .mixedOrders = true) (hQ : ∀ c a a' w, a.defers = a'.defers → Q (.panic c) a w → Q (.panic c) a' w)
    (hB : (Region.noSelect l.toArray && planB .any l.toArray (fun i => F.contains i) l.length true π (Array.replicate l.length false)) = true) (hC : C w.drew) (h : wpPlan P l C (fun i => F.contains i) Q π a w.drew) : (Code.region id l.toArray true).wp P Q a w := by
  simp only [Bool.and_eq_true] at hB
  obtain ⟨hsel, hst⟩ := hB
  refine wp_region_any hm (wpAny_of_C (C := C) (F := fun i => F.contains i) _ _ _ _ ?_)
  have h1 := wpAnyC_of_plan (P := P) (Q := Q) (C := C) (md := .any) hsel hQ l.length π true (Array.replicate l.length false) a w.drew (fun _ => hC) (fun j oj _ hl => by rw [getD_replicate_false] at hl; cases hl) hst h
  have hsz : l.toArray.size = l.length := by simp
  rw [hsz]
  exact h1
end
end Go.Proofs.Ytfbnckecfapakaa

/-
  What the document's own All of layer 12 does, and the comparison of two disks. Conditions: no more than 2^16 bytes of each kind.
-/
namespace Go.Proofs.Ytfbnckecfapakaa
open Go.RowKit
open Pol (co Sm)

/-- Bytes in a block of a call's own. -/
structure St (base : Nat) (w : World) (A : Option Addr) (n c : Nat) (l : List Nat) : Prop where
  len : l.length = n
  cap : n ≤ c
  rd : Rd w A l
  own : ∀ b o, A = some ⟨b, o, none⟩ → 0 < l.length → base ≤ b
theorem Mine.st {base : Nat} {w : World} {v : Value} {l : List Nat} (h : Mine w base v l) (hs : Sm l) : ∃ A n c, v = .slice A n c ∧ St base w A n c l := by
  obtain ⟨A, c, rfl, hc, hr⟩ := h.slice hs
  exact ⟨A, _, c, rfl, rfl, hc, hr, fun b o e _ => (h.block b (by rw [e]; rfl)).1⟩
theorem Mine.stAt {base : Nat} {w : World} {A : Option Addr} {n c : Nat} {l : List Nat} (h : Mine w base (.slice A n c) l) (hs : Sm l) : St base w A n c l := by
  obtain ⟨B, m, d, e, hst⟩ := h.st hs
  injection e with e1 e2 e3
  subst e1; subst e2; subst e3
  exact hst
theorem St.ext {base : Nat} {w w' : World} {A : Option Addr} {n c : Nat} {l : List Nat} (h : St base w A n c l) (hx : Ext w w') : St base w' A n c l := ⟨h.len, h.cap, h.rd.ext hx, h.own⟩
theorem St.down {base base' : Nat} {w : World} {A : Option Addr} {n c : Nat} {l : List Nat} (h : St base w A n c l) (hb : base' ≤ base) : St base' w A n c l := ⟨h.len, h.cap, h.rd, fun b o e h0 => Nat.le_trans hb (h.own b o e h0)⟩
theorem St.nil (base : Nat) (w : World) : St base w none 0 0 [] := ⟨rfl, Nat.le_refl _, Rd.nil _ _, fun b o e => by cases e⟩
/-- Worlds in which two cells of a block stay. -/
def TwoR (g : Nat) (f l : Value) (W : World) : Prop := W.cell? ⟨g, 0, none⟩ = some f ∧ W.cell? ⟨g, 1, none⟩ = some l
theorem TwoR.ext {g : Nat} {f l : Value} {w w' : World} (h : TwoR g f l w) (hx : Ext w w') : TwoR g f l w' := ⟨hx.at h.1, hx.at h.2⟩
theorem twoR_of {w : World} {g : Nat} {f l : Value} {ty : TypeId} (h : w.heap[g]? = some (.cells #[f, l] ty)) : TwoR g f l w := ⟨by rw [cell_of_row _ _ 0 _ _ _ h]; rfl, by rw [cell_of_row _ _ 1 _ _ _ h]; rfl⟩

set_option maxHeartbeats 1600000 in
set_option maxRecDepth 100000 in
theorem ref12_all {F L : List Nat} {A B : Option Addr} {nf ca nl cb : Nat} (w : World) (hf : F.length = nf) (hl : L.length = nl) (rf : Rd w A F) (rl : Rd w B L) (h1 : nf ≤ 65536) (h2 : nl ≤ 65536) :
    Calls Try.prog 29 #[.agg #[.slice A nf ca, .slice B nl cb]] w (fun e w' => Ext w w' ∧ ∃ v, e = .returned v ∧ Mine w' w.heap.size v (F ++ L)) := by
  have HF := Lib.hid hf
  have HL := Lib.hid hl
  have HRF := Lib.hid rf
  have HRL := Lib.hid rl
  have HX0 := Lib.hid ((Ext.refl w).alloc (.cells #[.slice A nf ca, .slice B nl cb] 24))
  have HT0 := Lib.hid (twoR_of (heap_alloc_new w (.cells #[.slice A nf ca, .slice B nl cb] 24)))
  have HLE := Lib.hid (And.intro h1 h2)
  have HSF := Lib.hid rf.1
  clear hf hl rf rl h1 h2
  go_enter Try.func29, Try.ntmps29
  go_wp2
  obtain ⟨g, hg⟩ : ∃ g, w.heap.size = g := ⟨_, rfl⟩
  rw [hg] at HT0 ⊢
  clear hg
  generalize w.alloc (.cells #[.slice A nf ca, .slice B nl cb] 24) = w1 at HX0 HT0 ⊢
  refine wp_region_plan (TwoR g (.slice A nf ca) (.slice B nl cb)) [0, 1, 2, 3, 4, 5] (.yes 1 (.yes 2 (.yes 4 (.yes 5 (.one 0 (.one 3 (.one 6 (.one 7 .done)))))))) (by kernel_rfl) (fun c a a' w e h => ⟨e ▸ h.1, h.2⟩) (by kernel_rfl) HT0.out ?_
  refine plan_yes rfl (fun K hK => ?_); go_simp; refine ⟨_, fun _ _ => rfl, hK _ ?_⟩; clear hK K
  refine plan_yes rfl (fun K hK => ?_); go_simp; refine ⟨.slice A nf ca, fun W hW => ?_, hK _ ?_⟩
  · have h1 := hW.1
    go_simp
  clear hK K
  refine plan_yes rfl (fun K hK => ?_); go_simp; refine ⟨_, fun _ _ => rfl, hK _ ?_⟩; clear hK K
  refine plan_yes rfl (fun K hK => ?_); go_simp; refine ⟨.slice B nl cb, fun W hW => ?_, hK _ ?_⟩
  · have h1 := hW.2
    go_simp
  clear hK K
  have HX1 := Lib.hid (show Ext w w1.drew from HX0.out.drew)
  have HT1 := Lib.hid (show TwoR g (.slice A nf ca) (.slice B nl cb) w1.drew from HT0.out)
  generalize w1.drew = w2 at HX1 HT1 ⊢
  have HM2 := Lib.hid (mine_empty w2)
  have HXA := Lib.hid ((Ext.refl w2).alloc (.cells #[] 5))
  refine plan_one rfl (fun K hK => ?_)
  go_wp2
  refine ⟨fun _ => HT1.out.ext HXA.out, ?_⟩
  refine plan_one rfl (fun K hK => ?_)
  go_wp2_with (at_builtin; refine wpList_append_new rfl (.tmp 3) (.tmp 5) rfl w2.heap.size w2.heap.size F rfl HM2.out A nf ca rfl HF.out (HRF.out.ext (HX1.out.trans HXA.out)) (by have := HF.out; have := HLE.out; omega) HXA.out.size ?_; intro v3 w3 hm3 hx3 _; obtain ⟨A3, n3, c3, ev, hst⟩ := hm3.st HSF.out; subst ev; have HM3 := Lib.hid hm3; have HX3 := Lib.hid (HX1.out.trans (HXA.out.trans hx3)); have HT3 := Lib.hid ((HT1.out.ext HXA.out).ext hx3); have HS3 := Lib.hid (HXA.out.trans hx3).size; clear hm3 hx3 hst)
  refine ⟨fun _ => HT3.out, ?_⟩
  refine plan_one rfl (fun K hK => ?_)
  go_wp2_with (at_builtin; refine wpList_append_rd rfl (.tmp 6) (.tmp 8) rfl w2.heap.size (.slice A3 n3 c3) F L rfl HM3.out B nl cb rfl HL.out (HRL.out.ext HX3.out) (by have := HF.out; have := HL.out; have := HLE.out; omega) HS3.out ?_; intro v4 w4 hm4 hg4 _; have HM4 := Lib.hid hm4; have HX4 := Lib.hid (HX3.out.more hg4 (fun q hq => Nat.le_trans HX1.out.size (HM3.out.block q hq).1)); clear hm4 hg4)
  refine ⟨fun h => absurd h (by decide), ?_⟩
  refine plan_one rfl (fun K hK => ?_)
  go_wp2
  refine ⟨fun h => absurd h (by decide), ?_⟩
  unfold wpPlan
  go_wp2
  go_ret
  exact ⟨HX4.out, _, rfl, HM4.out.down HX1.out.size⟩

set_option maxHeartbeats 1600000 in
set_option maxRecDepth 100000 in
/-- Two disks of the same bytes are the same. -/
theorem same12 {F L : List Nat} {A B D E : Option Addr} {nf ca nl cb cd ce : Nat} (w : World) (hf : F.length = nf) (hl : L.length = nl) (rf : Rd w A F) (rl : Rd w B L) (rf2 : Rd w D F) (rl2 : Rd w E L) (h1 : nf ≤ 65536) (h2 : nl ≤ 65536) :
    Calls Try.prog 13 #[.agg #[.slice A nf ca, .slice B nl cb], .agg #[.slice D nf cd, .slice E nl ce]] w (Tells (.bool true) w) := by
  have HSF := Lib.hid (fun W (h : Ext w W) => same_n (ca := ca) (cb := cd) W hf (rf.ext h) (rf2.ext h) h1)
  have HSL := Lib.hid (fun W (h : Ext w W) => same_n (ca := cb) (cb := ce) W hl (rl.ext h) (rl2.ext h) h2)
  have hx := ((Ext.refl w).alloc (.cells #[.slice A nf ca, .slice B nl cb] 30)).alloc (.cells #[.slice D nf cd, .slice E nl ce] 24)
  have HX := Lib.hid hx
  have hb1 := ((Ext.refl (w.alloc (.cells #[.slice A nf ca, .slice B nl cb] 30))).alloc (.cells #[.slice D nf cd, .slice E nl ce] 24)).row (heap_alloc_new w (.cells #[.slice A nf ca, .slice B nl cb] 30))
  have hb2 := heap_alloc_new (w.alloc (.cells #[.slice A nf ca, .slice B nl cb] 30)) (.cells #[.slice D nf cd, .slice E nl ce] 24)
  have hsz : (w.alloc (.cells #[.slice A nf ca, .slice B nl cb] 30)).heap.size = w.heap.size + 1 := by simp
  rw [hsz] at hb2
  have HT1 := Lib.hid (twoR_of hb1)
  have HT2 := Lib.hid (twoR_of hb2)
  clear hf hl rf rl rf2 rl2 h1 h2 hx hb1 hb2 hsz
  go_enter Try.func13, Try.ntmps13
  go_wp2_with fail
  refine (HSF.out _ HX.out).mono ?_
  rintro e w2 ⟨rfl, hx2⟩
  have HX2 := Lib.hid (HX.out.trans hx2)
  obtain ⟨_, c1⟩ := HT1.out.ext hx2
  obtain ⟨_, c2⟩ := HT2.out.ext hx2
  clear hx2
  go_wp2_with fail
  refine (HSL.out _ HX2.out).mono ?_
  rintro e w3 ⟨rfl, hx3⟩
  have HX3 := Lib.hid (HX2.out.trans hx3)
  clear hx3 c1 c2
  go_wp2
  go_ret
  exact ⟨rfl, HX3.out⟩
end Go.Proofs.Ytfbnckecfapakaa

/-
  A byte is put into bytes of a call's own. Conditions: none; no function is named here.
-/
namespace Go.Proofs.Ytfbnckecfapakaa
open Go.RowKit
open Pol (co Sm)

/-- A byte is put into bytes of a call's own. -/
theorem Mine.put {w : World} {base g n c i x : Nat} {l : List Nat} (h : Mine w base (.slice (some ⟨g, 0, none⟩) n c) l) (_ : i < l.length) : Mine (w.setCell ⟨g, i, none⟩ (.int .u8 (x : Int))) base (.slice (some ⟨g, 0, none⟩) n c) (l.set i x) := by
  rcases h.2 with ⟨e, _⟩ | ⟨g', cap, cur, e, hb, hg, hnc, hcm, hcs, ht⟩
  · cases e
  · injection e with e1 e2 e3
    injection e1 with e1
    injection e1 with e1
    subst e1; subst e3
    refine ⟨by rw [bv_len, List.length_set, Nat.mul_one], .inr ⟨g, c, cur.setIfInBounds i (.int .u8 (x : Int)), by rw [List.length_set, e2], hb, heap_setCell_same w g i cur _ _ hg, by rw [List.length_set]; exact hnc, hcm, by simpa using hcs, ?_⟩⟩
    rw [List.length_set, Array.toList_setIfInBounds, List.take_set, ht]
    unfold bv
    rw [List.map_set]
theorem set_last (L : List Nat) (m x : Nat) (h : m < L.length) : (L.take (m + 1)).set m x = L.take m ++ [x] := by
  rw [take12_succ L m h, List.set_append_right _ _ (by rw [List.length_take]; omega), List.length_take, Nat.min_eq_left (by omega), Nat.sub_self]
  rfl
theorem v64_of (z : Int) (m : Nat) (hz : z = (m : Int)) (h : m ≤ 1099511627776) : Value.int .i64 (wrap64 z) = Value.int .i64 (m : Int) := by
  subst hz
  congr 1
  unfold wrap64
  omega
theorem w64_few (m : Nat) (h : m ≤ 65536) : wrap64 (m : Int) = (m : Int) := by unfold wrap64; omega
theorem Mine.spot {w : World} {base : Nat} {v : Value} {l : List Nat} (h : Mine w base v l) (hs : Sm l) {i : Nat} (hi : i < l.length) : ∃ g n c, v = .slice (some ⟨g, 0, none⟩) n c ∧ w.cell? ⟨g, i, none⟩ = some (.int .u8 ((co l i : Nat) : Int)) ∧ w.frozen? ⟨g, i, none⟩ = false := by
  obtain ⟨B, c, rfl, _, hr⟩ := h.slice hs
  rcases h.2 with ⟨e, hn⟩ | ⟨g, cap, cur, e, hb, hg, _⟩
  · omega
  · injection e with e1 e2 e3
    subst e1
    obtain ⟨b, o, e4, hc⟩ := hr.2 i hi
    injection e4 with e4
    injection e4 with e4 e5
    subst e4; subst e5
    rw [Nat.zero_add] at hc
    exact ⟨g, _, c, rfl, hc, frozen_of_row w g i cur _ hg⟩
end Go.Proofs.Ytfbnckecfapakaa

/-
  Slices of a call's own that share no block. Conditions: none; no function is named here.
-/
namespace Go.Proofs.Ytfbnckecfapakaa
open Go.RowKit

/-- No block of one is the other's. -/
def Sp (u v : Value) : Prop := ∀ q, u.ownBlock = some q → v.ownBlock ≠ some q
theorem Sp.left {u u' v : Value} {n : Nat} (h : Sp u v) (ha : u'.ownBlock = u.ownBlock ∨ u'.ownBlock = some n) (hv : ∀ q, v.ownBlock = some q → q < n) : Sp u' v := fun q hq => by
  rcases ha with e | e
  · exact h q (e.symm.trans hq)
  · intro hv'
    rw [e] at hq
    injection hq with hq
    have := hv q hv'
    omega
theorem Sp.right {u v v' : Value} {n : Nat} (h : Sp u v) (ha : v'.ownBlock = v.ownBlock ∨ v'.ownBlock = some n) (hu : ∀ q, u.ownBlock = some q → q < n) : Sp u v' := fun q hq => by
  rcases ha with e | e
  · rw [e]; exact h q hq
  · rw [e]
    intro e'
    injection e' with e'
    have := hu q hq
    omega
theorem Mine.keep9 {w w' : World} {base : Nat} {v : Value} {l : List Nat} {row : Option Nat} (h : Mine w base v l) (hg : w.grownBy w' row) (hne : ∀ k, v.ownBlock = some k → some k ≠ row) : Mine w' base v l :=
  World.ownsRow.kept h hg (by
    cases hb : v.ownBlock with
    | none => exact .inl rfl
    | some k => exact .inr (hne k hb))
end Go.Proofs.Ytfbnckecfapakaa

/-
  Part 2 of the texts that the seat's proofs stand on; each part of it begins with its own sentence and conditions. Conditions: those that each theorem names.
-/
import Derived.Test.YtjibelmncbfbjaaPack1
import Derived.Deep.RegionLaw
import Derived.Lib.SlBytesConst
import Derived.Test.YtjibelmncbfbjaaProg
import Derived.StillTailTactics
import Derived.StillTail
import Derived.Deep.Quiet
import Derived.Deep.QuietTactic
import Derived.BigQuiet
import Derived.KernelRfl
import Derived.Laws.CopyOwn

/-
  Slices of ints that read as a list of any integers. Conditions: none; no function is named here.
-/
namespace Go.Proofs.Ytjibelmncbfbjaa
open Go.RowKit
open Pol (co Sm ev px py Apart)

/-- From address A on lie these integers. -/
def JRd (w : World) (A : Option Addr) (l : List Int) : Prop := ∀ i, i < l.length → ∃ b o, A = some ⟨b, o, none⟩ ∧ w.cell? ⟨b, o + i, none⟩ = some (.int .i64 (wn l i))
theorem JRd.ext {w w' : World} {A : Option Addr} {l : List Int} (h : JRd w A l) (hx : Ext w w') : JRd w' A l := fun i hi => by
  obtain ⟨b, o, e, hc⟩ := h i hi
  exact ⟨b, o, e, (hx.below.cell (p := ⟨b, o + i, none⟩) (block_lt_of_cell hc)).trans hc⟩
theorem JRd.nil (w : World) (A : Option Addr) : JRd w A [] := fun i hi => absurd hi (by simp)
/-- Natural numbers as integers. -/
def ji (l : List Nat) : List Int := l.map fun x : Nat => (x : Int)
theorem ji_len (l : List Nat) : (ji l).length = l.length := by simp [ji]
theorem wn_ji (l : List Nat) (i : Nat) : wn (ji l) i = ((co l i : Nat) : Int) := by
  unfold wn ji co
  rw [List.getElem?_map]
  cases l[i]? <;> rfl
theorem IRd.ji {w : World} {A : Option Addr} {l : List Nat} (h : IRd w A l) : JRd w A (ji l) := fun i hi => by
  rw [ji_len] at hi
  obtain ⟨b, o, e, hc⟩ := h i hi
  exact ⟨b, o, e, by rw [wn_ji]; exact hc⟩
theorem jrd_one (w : World) (x : Int) : JRd (w.alloc (.cells #[.int .i64 x] 3)) (some ⟨w.heap.size, 0, none⟩) [x] := fun i hi => by
  have h0 : i = 0 := by simp at hi; exact hi
  subst h0
  exact ⟨w.heap.size, 0, rfl, by rw [cell_of_row _ _ _ _ _ _ (heap_alloc_new w _)]; rfl⟩
end Go.Proofs.Ytjibelmncbfbjaa

/-
  Slices of bytes of a call's own that are handed back. Conditions: none.
-/
namespace Go.Proofs.Ytjibelmncbfbjaa
open Go.RowKit
open Pol (co Sm)

theorem mine_ext {w w' : World} {base : Nat} {v : Value} {l : List Nat} (h : Mine w base v l) (hx : Ext w w') : Mine w' base v l :=
  World.ownsRow.kept h (row := none) ⟨hx.below.os, hx.below.tape, hx.below.output, hx.below.size, fun k hk _ => hx.below.block k hk⟩ (by
    cases hb : v.ownBlock with
    | none => exact .inl rfl
    | some k => exact .inr (by simp))
theorem Mine.down {w : World} {base base' : Nat} {v : Value} {l : List Nat} (h : Mine w base v l) (hb : base' ≤ base) : Mine w base' v l :=
  ⟨h.1, h.2.imp id fun ⟨g, cap, cur, h1, h2, h3⟩ => ⟨g, cap, cur, h1, Nat.le_trans hb h2, h3⟩⟩
theorem Mine.nil (w : World) (base : Nat) : Mine w base (.slice none 0 0) [] := World.ownsRow_nil w base _ _
theorem Mine.block {w : World} {base : Nat} {v : Value} {l : List Nat} (h : Mine w base v l) : ∀ k, v.ownBlock = some k → base ≤ k ∧ k < w.heap.size := fun k hk => World.ownsRow.lt h k hk
/-- A list, in a block that was laid since. -/
def GivesM (l : List Nat) (w : World) (e : Ending) (w' : World) : Prop := ∃ v, e = .returned v ∧ Mine w' w.heap.size v l ∧ Sm l ∧ Ext w w'
theorem gives_m {w w' : World} {v : Value} {l m : List Nat} (hm : Mine w' w.heap.size v l) (hl : l = m) (hs : Sm m) (hx : Ext w w') : GivesM m w (.returned v) w' := by
  subst hl
  exact ⟨v, rfl, hm, hs, hx⟩
theorem GivesM.gives {l : List Nat} {w : World} {e : Ending} {w' : World} (h : GivesM l w e w') : Gives l w e w' := by
  obtain ⟨v, rfl, hm, hs, hx⟩ := h
  exact gives_of hm rfl hs hx
theorem GivesM.after {l : List Nat} {w w1 : World} {e : Ending} {w' : World} (h : GivesM l w1 e w') (hx : Ext w w1) : GivesM l w e w' := by
  obtain ⟨v, rfl, hm, hs, hx'⟩ := h
  exact ⟨v, rfl, hm.down hx.size, hs, hx.trans hx'⟩
end Go.Proofs.Ytjibelmncbfbjaa

/-
  Slices of rows that a call makes: cells that are there and may be written. Conditions: no more than 2^20 rows.
-/
namespace Go.Proofs.Ytjibelmncbfbjaa
open Go.RowKit
open Pol (co Sm)

set_option maxRecDepth 100000 in
/-- make([][]byte, n). -/
theorem run_make_rows (n : Nat) (hn : n ≤ 1048576) (w : World) :
    (Instr.makeSlice 36 (.int .i64 (n : Int)) (.int .i64 (n : Int))).run Try.prog w = .ok (.slice (some ⟨w.heap.size, 0, none⟩) n n) (w.alloc (.cells (madeCells #[.slice none 0 0] n) 22)) := by
  obtain ⟨i0, hi, hz0, hz1, hz2⟩ := info_parts row_info
  have h := run_make (P := Try.prog) w 36 22 i0 (.slice none 0 0) Try.underlying36 hi hz0 .i64 .i64 n n (by omega) (by omega) (by rw [hz2]; omega) (by omega)
  simp only [Int.toNat_natCast, hz1, Nat.mul_one] at h
  rw [h]
  rfl
/-- Block g's first m cells are there and may be written. -/
def Room (w : World) (g m : Nat) : Prop := ∀ i, i < m → (∃ v, w.cell? ⟨g, i, none⟩ = some v) ∧ w.frozen? ⟨g, i, none⟩ = false
theorem Room.ext {w w' : World} {g m : Nat} (h : Room w g m) (hx : Ext w w') : Room w' g m := fun i hi => by
  obtain ⟨⟨v, hv⟩, hf⟩ := h i hi
  exact ⟨⟨v, (hx.below.cell (p := ⟨g, i, none⟩) (block_lt_of_cell hv)).trans hv⟩, (hx.below.frozen (p := ⟨g, i, none⟩) (block_lt_of_cell hv)).trans hf⟩
theorem Room.set {w : World} {g m : Nat} (h : Room w g m) (k : Nat) (u : Value) : Room (w.setCell ⟨g, k, none⟩ u) g m := fun i hi => by
  obtain ⟨⟨v, hv⟩, hf⟩ := h i hi
  refine ⟨?_, by rw [World.frozen?_setCell]; exact hf⟩
  by_cases e : i = k
  · subst e
    exact ⟨u, World.cell?_setCell_same' _ _ _ (by rw [hv]; rfl)⟩
  · exact ⟨v, (World.cell?_setCell_other _ _ _ _ (fun h => e (by cases h; rfl))).trans hv⟩
theorem room_made (w : World) (m : Nat) : Room (w.alloc (.cells (madeCells #[.slice none 0 0] m) 22)) w.heap.size m := fun i hi => by
  have hg := heap_alloc_new w (.cells (madeCells #[.slice none 0 0] m) 22)
  refine ⟨⟨.slice none 0 0, ?_⟩, frozen_of_row _ _ _ _ _ hg⟩
  rw [cell_of_row _ _ _ _ _ _ hg]
  simp [madeCells, Nat.mod_one, hi]
end Go.Proofs.Ytjibelmncbfbjaa

/-
  Bytes in a block of a call's own, that are changed one by one; what stays while other blocks are written. Conditions: none.
-/
namespace Go.Proofs.Ytjibelmncbfbjaa
open Go.RowKit
open Pol (co Sm trim)

/-- The first n cells of block g are the bytes F, and may be written. -/
def Cells (w : World) (g n : Nat) (F : Nat → Nat) : Prop := ∀ i, i < n → w.cell? ⟨g, i, none⟩ = some (.int .u8 ((F i : Nat) : Int)) ∧ w.frozen? ⟨g, i, none⟩ = false
theorem Blk.cells {w : World} {g n : Nat} {F : Nat → Nat} (h : Blk w g n F) : Cells w g n F := fun i hi => ⟨h.cell i hi, h.frozen i⟩
theorem Cells.drewN {w : World} {g n : Nat} {F : Nat → Nat} (h : Cells w g n F) (k : Nat) : Cells (w.drewN k) g n F := h
theorem Cells.congr {w : World} {g n : Nat} {F F' : Nat → Nat} (h : Cells w g n F) (hf : ∀ i, i < n → F i = F' i) : Cells w g n F' := fun i hi => ⟨by rw [(h i hi).1, hf i hi], (h i hi).2⟩
theorem Cells.store {w : World} {g n : Nat} {F : Nat → Nat} (h : Cells w g n F) (k v : Nat) : Cells (w.setCell ⟨g, k, none⟩ (.int .u8 (v : Int))) g n (upd F k v) := fun i hi => by
  refine ⟨?_, by rw [World.frozen?_setCell]; exact (h i hi).2⟩
  unfold upd
  by_cases e : i = k
  · subst e
    rw [if_pos rfl]
    exact World.cell?_setCell_same' _ _ _ (by rw [(h i hi).1]; rfl)
  · rw [if_neg e, World.cell?_setCell_other _ _ _ _ (fun h => e (by cases h; rfl))]
    exact (h i hi).1
theorem Cells.keep {w w' : World} {g n : Nat} {F : Nat → Nat} {row : Option Nat} (h : Cells w g n F) (hg : w.grownBy w' row) (hne : some g ≠ row) : Cells w' g n F := fun i hi =>
  ⟨hg.cell (h i hi).1 hne, (World.frozen?_of_block (a := ⟨g, i, none⟩) (hg.block g (block_lt_of_cell (h i hi).1) hne)).trans (h i hi).2⟩
theorem Cells.ext {w w' : World} {g n : Nat} {F : Nat → Nat} (h : Cells w g n F) (hx : Ext w w') : Cells w' g n F := fun i hi =>
  ⟨(hx.below.cell (p := ⟨g, i, none⟩) (block_lt_of_cell (h i hi).1)).trans (h i hi).1, (hx.below.frozen (p := ⟨g, i, none⟩) (block_lt_of_cell (h i hi).1)).trans (h i hi).2⟩
theorem Cells.reads {w : World} {g n : Nat} {F : Nat → Nat} (h : Cells w g n F) (hs : ∀ i, i < n → F i < 256) : Rd w (some ⟨g, 0, none⟩) (tab n F) :=
  ⟨tab_sm n F hs, fun i hi => ⟨g, 0, rfl, by
    rw [tab_len] at hi
    rw [Nat.zero_add, (h i hi).1, co_tab, if_pos hi]⟩⟩
theorem Rd.keep {w w' : World} {A : Option Addr} {l : List Nat} {row : Option Nat} (h : Rd w A l) (hg : w.grownBy w' row) (hne : ∀ b o, A = some ⟨b, o, none⟩ → 0 < l.length → some b ≠ row) : Rd w' A l :=
  ⟨h.1, fun i hi => by
    obtain ⟨b, o, e, hc⟩ := h.2 i hi
    exact ⟨b, o, e, hg.cell hc (hne b o e (by omega))⟩⟩
theorem IsField.keep {w w' : World} {b : Nat} {row : Option Nat} (h : IsField w b) (hg : w.grownBy w' row) (hne : some b ≠ row) : IsField w' b :=
  ⟨fun i hi => hg.cell (h.1 i hi) hne, fun x hx => hg.cell (h.2 x hx) hne⟩
theorem grown_set (w : World) (g o : Nat) (v : Value) : w.grownBy (w.setCell ⟨g, o, none⟩ v) (some g) :=
  ⟨rfl, rfl, rfl, by simp [World.setCell], fun k _ hk => Below.heap_setCell _ _ _ k (fun e => hk (by rw [e]))⟩
theorem grown_drewN (w : World) (n : Nat) (row : Option Nat) : w.grownBy (w.drewN n) row := ⟨rfl, rfl, rfl, Nat.le_refl _, fun _ _ _ => rfl⟩
theorem Ext.grown {w w' : World} (h : Ext w w') (row : Option Nat) : w.grownBy w' row := ⟨h.below.os, h.below.tape, h.below.output, h.below.size, fun k hk _ => h.below.block k hk⟩

/-- s[l:] of bytes, where the capacity goes on. -/
theorem run_from_u8 (g o len cap l : Nat) (h : l ≤ len) (hc : l < cap) (W : World) :
    (Instr.slice 22 (.slice (some ⟨g, o, none⟩) len cap) (some (.int .i64 (l : Int))) none none).run Try.prog W = .ok (.slice (some ⟨g, o + l, none⟩) (len - l) (cap - l)) W := by
  obtain ⟨i0, hi, hz0, hz1, hz2⟩ := info_parts u8_info
  have he : Try.prog.elem 22 = 5 := by kernel_rfl
  rw [run_slice_l W 22 _ len cap (by rw [he]; exact Try.underlying22) .i64 (l : Int) (by omega) (by omega), he]
  simp [sizeOf, typeInfo, hi, hz1, Result.andThen, sliced, addr_add]
  omega

/-- A slice of the call's own, as cells that may be written. -/
theorem Mine.cells {w : World} {base : Nat} {v : Value} {l : List Nat} (hm : Mine w base v l) : ∃ A c g, v = .slice A l.length c ∧ l.length ≤ c ∧ (0 < l.length → A = some ⟨g, 0, none⟩ ∧ base ≤ g) ∧ Cells w g l.length (co l) := by
  rcases hm.2 with ⟨rfl, hn⟩ | ⟨g, cap, cur, rfl, hb, hg, hnc, _, _, htake⟩
  · have : l = [] := List.eq_nil_of_length_eq_zero hn
    subst this
    exact ⟨none, 0, 0, rfl, Nat.le_refl _, fun h => absurd h (by simp), fun i hi => absurd hi (by simp)⟩
  · refine ⟨_, cap, g, rfl, hnc, fun _ => ⟨rfl, hb⟩, fun i hi => ⟨?_, frozen_of_row w g i cur _ hg⟩⟩
    rw [cell_of_row w g i cur _ _ hg, ← bv_at l i hi, ← htake, List.getElem?_take, if_pos (by omega)]
    simp
end Go.Proofs.Ytjibelmncbfbjaa

/-
  Rows that a call makes and fills one by one, and bytes that it appends. Conditions: none; no function is named here.
-/
namespace Go.Proofs.Ytjibelmncbfbjaa
open Go.RowKit
open Pol (co Sm)

theorem tab_succ (n : Nat) (f : Nat → Nat) : tab (n + 1) f = tab n f ++ [f n] := by
  unfold tab
  rw [List.range_succ, List.map_append]
  rfl
theorem tab_zero (f : Nat → Nat) : tab 0 f = [] := rfl
/-- Block g has m cells that may be written; its first k are slices of these rows, none of which lies in g. -/
structure RowsAt (w : World) (g m : Nat) (R : Nat → List Nat) (k : Nat) : Prop where
  room : Room w g m
  row : ∀ i, i < k → ∃ B c, w.cell? ⟨g, i, none⟩ = some (.slice (some ⟨B, 0, none⟩) (R i).length c) ∧ (R i).length ≤ c ∧ Rd w (some ⟨B, 0, none⟩) (R i) ∧ B ≠ g
theorem RowsAt.ext {w w' : World} {g m k : Nat} {R : Nat → List Nat} (h : RowsAt w g m R k) (hx : Ext w w') : RowsAt w' g m R k :=
  ⟨h.room.ext hx, fun i hi => by
    obtain ⟨B, c, h1, h2, h3, h4⟩ := h.row i hi
    exact ⟨B, c, (hx.below.cell (p := ⟨g, i, none⟩) (block_lt_of_cell h1)).trans h1, h2, h3.ext hx, h4⟩⟩
theorem Rd.set {w : World} {b o : Nat} {l : List Nat} (h : Rd w (some ⟨b, o, none⟩) l) (g k : Nat) (u : Value) (hne : b ≠ g) : Rd (w.setCell ⟨g, k, none⟩ u) (some ⟨b, o, none⟩) l :=
  h.keep (grown_set w g k u) (fun b' o' e _ e' => hne (by injection e with e; injection e with e1 e2; injection e' with e'; omega))
theorem RowsAt.put {w : World} {g m k B c n : Nat} {R : Nat → List Nat} (h : RowsAt w g m R k) (hk : k < m) (hn : (R k).length = n) (hc : n ≤ c) (hr : Rd w (some ⟨B, 0, none⟩) (R k)) (hB : B ≠ g) : RowsAt (w.setCell ⟨g, k, none⟩ (.slice (some ⟨B, 0, none⟩) n c)) g m R (k + 1) := by
  subst hn
  refine ⟨h.room.set k _, fun i hi => ?_⟩
  by_cases e : i = k
  · subst e
    obtain ⟨⟨v, hv⟩, _⟩ := h.room i hk
    exact ⟨B, c, World.cell?_setCell_same' _ _ _ (by rw [hv]; rfl), hc, hr.set g i _ hB, hB⟩
  · obtain ⟨B', c', h1, h2, h3, h4⟩ := h.row i (by omega)
    exact ⟨B', c', (World.cell?_setCell_other _ _ _ _ (fun h => e (by cases h; rfl))).trans h1, h2, h3.set g k _ h4, h4⟩
theorem step_append_rd {ops : Array Oper} {o : Oper} {a : Act} {w : World} {K : Act → World → Prop} {Q : Exit → Act → World → Prop} {E : Prop} (hgd : o.guard = none) (s x : Operand)
    (ho : o.op = .call { callee := .builtin .append, args := #[s, x], argTypes := #[22, 22] })
    (base : Nat) (v : Value) (l m : List Nat) (hs : a.eval s = v) (hown : Mine w base v l) (A : Option Addr) (n c : Nat) (hx : a.eval x = .slice A n c) (hn : m.length = n) (hr : Rd w A m)
    (hlen : l.length + m.length ≤ 140737488355328) (hbase : base ≤ w.heap.size)
    (h : ∀ v' w', Mine w' base v' (l ++ m) → w.grownBy w' v.ownBlock → (v'.ownBlock = v.ownBlock ∨ v'.ownBlock = some w.heap.size) → K (a.put o.dst v') w') :
    if Region.wanted o (yielded ops a.tmps) = true then Oper.wp Try.prog o a w K Q else E := by
  subst hn
  rw [if_pos (by simp [Region.wanted, hgd])]
  obtain ⟨v', w', hrun, h2, h3, h4⟩ := run_append_rd w base o.type v l m hown A c hr hlen hbase
  unfold Oper.wp execOp
  simp only [ho, resolve, invoke, builtin, Sem.run_bind, Sem.run_pure, Result.andThen_ok, List.map_toArray, List.map_cons, List.map_nil, hs, hx, hrun]
  exact h v' w' h2 h3 h4
set_option maxRecDepth 100000 in
/-- make([]byte, 0, n). -/
theorem run_make_cap (n : Nat) (N : Int) (hN : N = (n : Int)) (hn : n ≤ 1099511627776) (w : World) :
    (Instr.makeSlice 22 (.int .i64 0) (.int .i64 N)).run Try.prog w = .ok (.slice (some ⟨w.heap.size, 0, none⟩) 0 n) (w.alloc (.cells (bt n fun _ => 0) 5)) := by
  subst hN
  obtain ⟨i0, hi, hz0, hz1, hz2⟩ := info_parts u8_info
  have h := run_make (P := Try.prog) w 22 5 i0 (.int .u8 0) Try.underlying22 hi hz0 .i64 .i64 0 n (by omega) (by omega) (by rw [hz2]; omega) (by omega)
  simp only [Int.toNat_natCast, hz1, Nat.mul_one] at h
  rw [h, ← bt_made]
  rfl
theorem mine_made (w : World) (n : Nat) (hn : n ≤ 1099511627776) : Mine (w.alloc (.cells (bt n fun _ => 0) 5)) w.heap.size (.slice (some ⟨w.heap.size, 0, none⟩) 0 n) [] :=
  World.ownsRow_made w (bt n fun _ => 0) n (Nat.le_refl _) (by unfold maxLen; omega) (by rw [bt_size, Nat.mul_one])
/-- A slice of one's own that is not empty. -/
theorem Mine.at {w : World} {base : Nat} {v : Value} {l : List Nat} (h : Mine w base v l) (hs : Sm l) (hl : 0 < l.length) : ∃ g c, v = .slice (some ⟨g, 0, none⟩) l.length c ∧ l.length ≤ c ∧ Rd w (some ⟨g, 0, none⟩) l ∧ base ≤ g := by
  obtain ⟨B, c, rfl, hc, hr⟩ := h.slice hs
  rcases h.2 with ⟨_, hn⟩ | ⟨g, cap, cur, e, hb, _⟩
  · omega
  · injection e with e1 _ e3
    subst e1
    exact ⟨g, c, rfl, hc, hr, hb⟩
/-- s[:h] of bytes. -/
theorem run_to_u8 (A : Option Addr) (len cap h : Nat) (hh : h ≤ cap) (W : World) :
    (Instr.slice 22 (.slice A len cap) none (some (.int .i64 (h : Int))) none).run Try.prog W = .ok (.slice A h cap) W := by
  obtain ⟨i0, hi, hz0, hz1, hz2⟩ := info_parts u8_info
  have he : Try.prog.elem 22 = 5 := by kernel_rfl
  rw [run_slice_h W 22 _ len cap (by rw [he]; exact Try.underlying22) .i64 (h : Int) (by omega) (by omega), he]
  cases A <;> simp [sizeOf, typeInfo, hi, hz1, Result.andThen, sliced, Addr.add]
end Go.Proofs.Ytjibelmncbfbjaa

/-
  What the document's own Fill and Strip of layer 6 do. Conditions: no more than 2^20 bytes.
-/
namespace Go.Proofs.Ytjibelmncbfbjaa
open Go.RowKit
open Pol (co Sm ev px py Apart)

/-- A filled text's bytes. -/
def fg (t : List Nat) (i : Nat) : Nat := if i = 0 then t.length else co t (i - 1)
theorem fg_sm {t : List Nat} (h : Sm t) (ht : t.length < 256) (k : Nat) : Sm (tab k (fg t)) := tab_sm _ _ fun i _ => by
  unfold fg
  split
  · exact ht
  · exact h _
theorem fg_start (t : List Nat) : [t.length] ++ t = tab (t.length + 1) (fg t) := by
  refine Lin.list_ext (by rw [tab_len, List.length_append]; simp; omega) fun i hi => ?_
  rw [co_tab, if_pos (by rw [List.length_append] at hi; simp at hi; omega)]
  unfold fg
  cases i with
  | zero => rfl
  | succ i => exact Pol.co_succ _ _ _
theorem fg_more (t : List Nat) (k : Nat) (h : t.length < k) : tab k (fg t) ++ [0] = tab (k + 1) (fg t) := by
  rw [tab_succ]
  unfold fg
  rw [if_neg (by omega), Pol.co_out _ _ (by omega)]

set_option maxHeartbeats 800000 in
theorem ref_fill_no (n : Nat) (m : Int) (A : Option Addr) (ca : Nat) (w : World) (h : ¬ FillOk n m) :
    Calls Try.prog 19 #[.slice A n ca, .int .i64 m] w (GivesE [] 6 w) := by
  unfold FillOk at h
  by_cases h1 : m < 1
  · have d1 : decide (m < 1) = true := decide_eq_true h1
    clear h
    go_enter Try.func19, Try.ntmps19
    go_wp2
    go_ret2
    exact ⟨_, rfl, sl_none _, Ext.refl w⟩
  have d1 : decide (m < 1) = false := decide_eq_false h1
  by_cases h2 : 256 < m
  · have d2 : decide (256 < m) = true := decide_eq_true h2
    clear h
    go_enter Try.func19, Try.ntmps19
    go_wp2
    go_ret2
    exact ⟨_, rfl, sl_none _, Ext.refl w⟩
  have d2 : decide (256 < m) = false := decide_eq_false h2
  have d3 : decide (m ≤ (n : Int)) = true := decide_eq_true (by omega)
  clear h
  go_enter Try.func19, Try.ntmps19
  go_wp2
  go_ret2
  exact ⟨_, rfl, sl_none _, Ext.refl w⟩

set_option maxHeartbeats 1600000 in
set_option maxRecDepth 100000 in
theorem ref_fill (t : List Nat) (m : Nat) (A : Option Addr) (ca : Nat) (w : World) (hr : Rd w A t) (h : FillOk t.length (m : Int)) :
    Calls Try.prog 19 #[.slice A t.length ca, .int .i64 (m : Int)] w (GivesE (fil t m) 0 w) := by
  obtain ⟨h1, h2, h3⟩ := h
  have HSM := Lib.hid (fg_sm hr.1 (by omega))
  have HST := Lib.hid (fg_start t)
  have HMO := Lib.hid (fg_more t)
  have HR := Lib.hid hr
  have HFE := Lib.hid (show fil t m = tab m (fg t) from rfl)
  have HM0 := Lib.hid (mine_one w t.length)
  clear hr
  generalize hn : t.length = n at *
  have HN := Lib.hid hn
  clear hn
  have d1 : decide ((m : Int) < 1) = false := decide_eq_false (by omega)
  have d2 : decide (256 < (m : Int)) = false := decide_eq_false (by omega)
  have d3 : decide ((m : Int) ≤ (n : Int)) = false := decide_eq_false (by omega)
  have ew : IntKind.u8.wrap (n : Int) = (n : Int) := IntWalk.u8_in _ (by omega)
  go_enter Try.func19, Try.ntmps19
  go_wp2_with (at_builtin; refine wpList_append_rd rfl (.tmp 22) (.tmp 23) rfl w.heap.size _ [n] t rfl HM0.out A n ca rfl HN.out (HR.out.ext ((Ext.refl _).alloc _)) (by rw [HN.out]; simp; omega) (by simp) ?_; intro v' w3 hown' hg' hat'; rw [HST.out] at hown'; have hx3 := ((Ext.refl w).alloc (.cells #[.int .u8 (n : Int)] 5)).more hg' (fun r e => (HM0.out.block r e).1); obtain ⟨Bv, cv, ev', hcv, _⟩ := hown'.slice (HSM.out _); rw [tab_len] at ev' hcv; subst ev'; have HO := Lib.hid hown'; have HX3 := Lib.hid hx3; clear hown' hg' hat' hx3)
  go_loopg [6] (m - (n + 1)) (fun gh s wx => ∃ (k : Nat) (B : Option Addr) (c : Nat), k + gh = m ∧ n + 1 ≤ k ∧ s = .slice B k c ∧ Mine wx w.heap.size (.slice B k c) (tab k (fg t)) ∧ Ext w wx)
  case atStart => exact ⟨n + 1, Bv, cv, by omega, Nat.le_refl _, rfl, HO.out, HX3.out⟩
  case round =>
    obtain ⟨k, B, c, hkg, hnk, rfl, hm, hx⟩ := hrel
    have HM := Lib.hid hm
    have HX := Lib.hid hx
    clear hm hx
    cases gk with
    | zero =>
      obtain rfl : k = m := by omega
      clear hkg
      go_wp2
      go_ret2
      rw [HFE.out]
      obtain ⟨B', c', e', hc', hr'⟩ := HM.out.slice (HSM.out _)
      exact ⟨_, rfl, ⟨B', c', e', hc', hr'⟩, HX.out⟩
    | succ gh =>
      have hk : k < m := by omega
      have hkI : (k : Int) < (m : Int) := by omega
      go_wp2_with (at_builtin; refine wpList_append_rd rfl (.tmp 29) (.tmp 30) rfl w.heap.size _ (tab k (fg t)) [0] rfl (mine_ext HM.out ((Ext.refl _).alloc _)) (some ⟨wr.heap.size, 0, none⟩) 1 1 rfl rfl (rd_one wr 0 (by omega)) (by rw [tab_len]; simp; omega) (by simp; have := HX.out.size; omega) ?_; intro v' w3 hown' hg' hat'; rw [HMO.out k (by omega)] at hown'; have hx3 := (HX.out.alloc (.cells #[.int .u8 0] 5)).more hg' (fun r e => (HM.out.block r e).1); obtain ⟨Bv, cv, ev', hcv, _⟩ := hown'.slice (HSM.out _); rw [tab_len] at ev' hcv; subst ev'; have HO := Lib.hid hown'; have HX3 := Lib.hid hx3; clear hown' hg' hat' hx3)
      go_roundg gh
      case measure => omega
      case rel => exact ⟨k + 1, Bv, cv, by omega, by omega, rfl, HO.out, HX3.out⟩

set_option maxHeartbeats 800000 in
theorem ref_strip_arg (n : Nat) (A : Option Addr) (ca : Nat) (w : World) (h : ¬ StripNum n) :
    Calls Try.prog 21 #[.slice A n ca] w (GivesE [] 1 w) := by
  unfold StripNum at h
  by_cases h1 : (n : Int) < 1
  · have d1 : decide ((n : Int) < 1) = true := decide_eq_true h1
    clear h
    go_enter Try.func21, Try.ntmps21
    go_wp2
    go_ret2
    exact ⟨_, rfl, sl_none _, Ext.refl w⟩
  have d1 : decide ((n : Int) < 1) = false := decide_eq_false h1
  have d2 : decide (256 < (n : Int)) = true := decide_eq_true (by omega)
  clear h
  go_enter Try.func21, Try.ntmps21
  go_wp2
  go_ret2
  exact ⟨_, rfl, sl_none _, Ext.refl w⟩
/-- What is stripped, or that nothing is. -/
def StripE (b : List Nat) (w : World) (e : Ending) (w' : World) : Prop := (Tail0 b ∧ GivesE (strp b) 0 w e w') ∨ (¬ Tail0 b ∧ GivesE [] 3 w e w')

theorem StripE.yes {b : List Nat} {w : World} {z : Nat} {B : Option Addr} {c : Nat} {w' : World} (hz : co b 0 = z) (h : z < b.length) (h0 : ∀ i, z < i → co b i = 0) (hc : z ≤ c) (hr : Rd w' B (tab z fun i => co b (i + 1))) (hx : Ext w w') : StripE b w (.returned (.tuple #[.slice B z c, .int .i64 0])) w' := by
  subst hz
  exact .inl ⟨⟨h, h0⟩, _, rfl, ⟨B, c, by rw [strp_len], by rw [strp_len]; exact hc, hr⟩, hx⟩
theorem StripE.no {b : List Nat} {w : World} {w' : World} (h : ¬ Tail0 b) (hx : Ext w w') : StripE b w (.returned (.tuple #[.slice none 0 0, .int .i64 3])) w' := .inr ⟨h, _, rfl, sl_none _, hx⟩

set_option maxHeartbeats 1600000 in
set_option maxRecDepth 100000 in
theorem ref_strip (b : List Nat) (A : Option Addr) (ca : Nat) (w : World) (hr : Rd w A b) (hca : b.length ≤ ca) (h : StripNum b.length) :
    Calls Try.prog 21 #[.slice A b.length ca] w (StripE b w) := by
  obtain ⟨h1, h2⟩ := h
  obtain ⟨b0, o0, e0, hc0⟩ := hr.2 0 (by omega)
  subst e0
  rw [Nat.add_zero] at hc0
  have hb0 := hr.1 0
  have hsm := hr.1
  obtain ⟨z, hz⟩ : ∃ z, co b 0 = z := ⟨_, rfl⟩
  rw [hz] at hc0 hb0
  have HYES := Lib.hid (fun B c w' => StripE.yes (w := w) (B := B) (c := c) (w' := w') hz)
  have HTL := Lib.hid (show Tail0 b ↔ z < b.length ∧ ∀ i, z < i → co b i = 0 from by unfold Tail0; rw [hz])
  have HR := Lib.hid hr
  have HSM := Lib.hid hsm
  have HOUT := Lib.hid (fun i (hi : b.length ≤ i) => Pol.co_out b i hi)
  generalize hn : b.length = n at *
  have HN := Lib.hid hn
  have hz256 : (z : Int) < 256 := by omega
  have d1 : decide ((n : Int) < 1) = false := decide_eq_false (by omega)
  have d2 : decide (256 < (n : Int)) = false := decide_eq_false (by omega)
  clear hr hsm hz hn
  by_cases hzn : z < n
  · have d3 : decide (n ≤ z) = false := decide_eq_false (by omega)
    obtain ⟨y, hy⟩ : ∃ y, z + 1 = y := ⟨_, rfl⟩
    have ey : IntKind.i64.wrap ((z : Int) + 1) = (y : Int) := by rw [IntWalk.i64_in _ (by omega)]; omega
    obtain ⟨X, hX, hXr⟩ := run_cut_u8 (some ⟨b0, o0, none⟩) n ca 1 y (by omega) (by omega)
    rw [show y - 1 = z from by omega] at hX hXr
    have hX' : ∀ W, (Instr.slice 22 (.slice (some ⟨b0, o0, none⟩) n ca) (some (.int .i64 1)) (some (.int .i64 (y : Int))) none).run Try.prog W = .ok (.slice X z (ca - 1)) W := hX
    have HXR := Lib.hid (fun W (hW : Ext w W) => show Rd W X (tab z fun i => co b (i + 1)) from by
      have h := hXr W b (HR.out.ext hW) (by rw [HN.out]; omega)
      rwa [show (fun j => co b (1 + j)) = fun j => co b (j + 1) from by funext j; rw [Nat.add_comm]] at h)
    obtain ⟨cc, hcc⟩ : ∃ cc, ca - 1 = cc := ⟨_, rfl⟩
    rw [hcc] at hX'
    have HCC := Lib.hid (show z ≤ cc by omega)
    have HY := Lib.hid hy
    have hyn : y ≤ n := by omega
    clear hX hXr hcc hy
    go_enter Try.func21, Try.ntmps21
    go_wp2
    go_loopg [5] (n - y) (fun g s wx => ∃ k : Nat, k + g = n ∧ s = .int .i64 (k : Int) ∧ y ≤ k ∧ (∀ j, z < j → j < k → co b j = 0) ∧ w = wx)
    case atStart => exact ⟨y, by omega, rfl, Nat.le_refl _, fun j h1 h2 => by have := HY.out; omega, rfl⟩
    case round =>
      obtain ⟨k, hkg, rfl, hyk, hall, rfl⟩ := hrel
      have HALL := Lib.hid hall
      clear hall
      cases gk with
      | zero =>
        obtain rfl : k = n := by omega
        clear hkg
        go_wp2
        go_ret2
        exact HYES.out _ _ _ hzn (fun j hj => by
          by_cases hjk : j < k
          · exact HALL.out j hj hjk
          · exact HOUT.out j (by omega)) HCC.out (HXR.out _ (Ext.refl _)) (Ext.refl _)
      | succ g =>
        have hk : k < n := by omega
        have hkI : (k : Int) < (n : Int) := by omega
        obtain ⟨b1, o1, e1, hc1⟩ := HR.out.2 k (by rw [HN.out]; exact hk)
        injection e1 with e1
        injection e1 with e1 e2
        subst e1; subst e2
        have hub := HSM.out k
        obtain ⟨u, hu⟩ : ∃ u, co b k = u := ⟨_, rfl⟩
        rw [hu] at hc1 hub
        by_cases hu0 : u = 0
        · subst hu0
          have HU := Lib.hid hu
          clear hu
          go_wp2
          go_roundg g
          case measure => omega
          case rel => exact ⟨k + 1, by omega, by go_num, by omega, fun j h1 h2 => by
            by_cases e : j = k
            · subst e; exact HU.out
            · exact HALL.out j h1 (by omega), rfl⟩
        · have t : ((u : Int) != 0) = true := by simp; omega
          have HNO := Lib.hid (show ¬ Tail0 b from fun h => hu0 (by
            rw [← hu]
            exact (HTL.out.1 h).2 k (by have := HY.out; omega)))
          clear hu0 hu
          go_wp2
          go_ret2
          exact StripE.no HNO.out (Ext.refl _)
  · have d3 : decide (n ≤ z) = true := decide_eq_true (by omega)
    have HNO := Lib.hid (show ¬ Tail0 b from fun h => hzn (HTL.out.1 h).1)
    clear hzn
    go_enter Try.func21, Try.ntmps21
    go_wp2
    go_ret2
    exact StripE.no HNO.out (Ext.refl _)
end Go.Proofs.Ytjibelmncbfbjaa

/-
  Literals of rows, and rows that lie in newer blocks than another one. Conditions: none.
-/
namespace Go.Proofs.Ytjibelmncbfbjaa
open Go.RowKit
open Pol (co Sm)

theorem rrd_lit (w : World) (vs : List Value) (rows : List (List Nat)) (h : RowsV w vs rows) : RRd (w.alloc (.cells vs.toArray 22)) (some ⟨w.heap.size, 0, none⟩) rows := fun i hi => by
  obtain ⟨B, c, hv, hl, hr⟩ := h.2 i hi
  refine ⟨w.heap.size, 0, B, c, rfl, ?_, hl, hr.ext ((Ext.refl _).alloc _)⟩
  rw [cell_of_row _ _ _ _ _ _ (heap_alloc_new w _), Nat.zero_add]
  simpa using hv
theorem rowsV_one {w : World} {v : Value} {l : List Nat} (h : Sl w v l) : RowsV w [v] [l] := ⟨rfl, fun i hi => by
  match i, hi with
  | 0, _ =>
    obtain ⟨B, c, rfl, hc, hr⟩ := h
    exact ⟨B, c, rfl, hc, hr⟩⟩
theorem take_ro (rows : List (List Nat)) (k : Nat) (h : k < rows.length) : rows.take (k + 1) = rows.take k ++ [ro rows k] := by
  rw [List.take_succ_eq_append_getElem h]
  unfold ro
  rw [List.getElem?_eq_getElem h]
  rfl
/-- A literal of one row, whose bytes lie in a block that is new: it lies in no elder block. -/
theorem far_one {w : World} {v : Value} {l : List Nat} {base : Nat} (hm : Mine w base v l) (row : Option Nat) (hrow : ∀ k, row = some k → k < base) (g : Nat) (hg : g = w.heap.size) :
    ∀ i, i < [l].length → ∀ b o n c, (∃ b' o', (some ⟨g, 0, none⟩ : Option Addr) = some ⟨b', o', none⟩ ∧ (w.alloc (.cells #[v] 22)).cell? ⟨b', o' + i, none⟩ = some (.slice (some ⟨b, o, none⟩) n c)) → 0 < n → some b ≠ row := by
  rintro i hi b o n c ⟨b', o', e, hc⟩ hn e'
  subst hg
  injection e with e
  injection e with e1 e2
  subst e1; subst e2
  have hi0 : i = 0 := by simpa using hi
  subst hi0
  rw [cell_of_row _ _ _ _ _ _ (heap_alloc_new w _)] at hc
  have hv : v = .slice (some ⟨b, o, none⟩) n c := by simpa using hc
  have hb := World.ownsRow.lt hm b (by rw [hv]; rfl)
  have := hrow b e'.symm
  omega
end Go.Proofs.Ytjibelmncbfbjaa

/-
  What layer 6's own functions are to do, as one statement; the laws of layer 6 are awake under that. Conditions: a field that New made, no more than 2^12 bytes and coins, no more than 2^10 participants.
-/
namespace Go.Proofs.Ytjibelmncbfbjaa
open Go.RowKit
open Pol (co Sm ev px py Apart)

structure BlindSaid : Prop where
  sealYes : ∀ (t p : List Nat) (A B : Option Addr) (ca cb : Nat) (w : World), Rd w A t → Rd w B p → t.length ≤ ca → p.length ≤ cb → t.length ≤ 4096 → t.length = p.length →
    Calls Try.prog 16 #[.slice A t.length ca, .slice B p.length cb] w (GivesE (lx t p) 0 w)
  sealNo : ∀ (t p : List Nat) (A B : Option Addr) (ca cb : Nat) (w : World), Rd w A t → Rd w B p → t.length ≤ ca → p.length ≤ cb → t.length ≤ 4096 → p.length ≤ 4096 → t.length ≠ p.length →
    Calls Try.prog 16 #[.slice A t.length ca, .slice B p.length cb] w (GivesE [] 1 w)
  padYes : ∀ (t p : List Nat) (A B : Option Addr) (ca cb : Nat) (w : World), Rd w A t → Rd w B p → t.length ≤ ca → p.length ≤ cb → t.length ≤ 4096 → t.length = p.length →
    Calls Try.prog 17 #[.slice A t.length ca, .slice B p.length cb] w (GivesE (lx t p) 0 w)
  padNo : ∀ (t p : List Nat) (A B : Option Addr) (ca cb : Nat) (w : World), Rd w A t → Rd w B p → t.length ≤ ca → p.length ≤ cb → t.length ≤ 4096 → p.length ≤ 4096 → t.length ≠ p.length →
    Calls Try.prog 17 #[.slice A t.length ca, .slice B p.length cb] w (GivesE [] 1 w)
  fill : ∀ (t : List Nat) (m : Nat) (A : Option Addr) (ca : Nat) (w : World), Rd w A t → t.length ≤ ca → FillOk t.length (m : Int) →
    Calls Try.prog 18 #[.slice A t.length ca, .int .i64 (m : Int)] w (GivesE (fil t m) 0 w)
  fillOdd : ∀ (t : List Nat) (m : Int) (A : Option Addr) (ca : Nat) (w : World), Rd w A t → t.length ≤ ca → t.length ≤ 4096 → In64 m → ¬ FillOk t.length m →
    Calls Try.prog 18 #[.slice A t.length ca, .int .i64 m] w (GivesE [] 6 w)
  strip : ∀ (b : List Nat) (A : Option Addr) (ca : Nat) (w : World), Rd w A b → b.length ≤ ca → StripNum b.length →
    Calls Try.prog 20 #[.slice A b.length ca] w (StripE b w)
  stripOdd : ∀ (b : List Nat) (A : Option Addr) (ca : Nat) (w : World), Rd w A b → b.length ≤ ca → b.length ≤ 4096 → ¬ StripNum b.length →
    Calls Try.prog 20 #[.slice A b.length ca] w (GivesE [] 1 w)
  remap : ∀ (f : Nat) (s o c : List Nat) (d : Nat) (who : List Int) (A B C D : Option Addr) (ca cb cc cd : Nat) (w : World), IsField w f → Rd w A s → Rd w B o → Rd w C c → JRd w D who → s.length ≤ ca → o.length ≤ cb → c.length ≤ cc → who.length ≤ cd → c.length ≤ 4096 → RemapOk s o c ((d + 1 : Nat) : Int) who →
    Calls Try.prog 9 #[.pointer (some ⟨f, 0, none⟩), .slice A s.length ca, .slice B o.length cb, .slice C c.length cc, .int .i64 ((d + 1 : Nat) : Int), .slice D who.length cd] w (GivesE (remap s o c d who) 0 w)
  remapOdd : ∀ (f : Nat) (s o c : List Nat) (k : Int) (who : List Int) (A B C D : Option Addr) (ca cb cc cd : Nat) (w : World), IsField w f → Rd w A s → Rd w B o → Rd w C c → JRd w D who → s.length ≤ ca → o.length ≤ cb → c.length ≤ cc → who.length ≤ cd → s.length ≤ 4096 → c.length ≤ 4096 → who.length ≤ 1024 → (∀ i, In64 (wn who i)) → In64 k → ¬ RemapOk s o c k who →
    Calls Try.prog 9 #[.pointer (some ⟨f, 0, none⟩), .slice A s.length ca, .slice B o.length cb, .slice C c.length cc, .int .i64 k, .slice D who.length cd] w (GivesE [] 1 w)

/-! ### The examples -/
theorem rd_lit_at (w : World) (l : List Nat) (g : Nat) (hg : w.heap.size = g) (h : Sm l) : Rd (w.alloc (.cells (bv l).toArray 5)) (some ⟨g, 0, none⟩) l := hg ▸ rd_lit w l h
theorem rd_marked (w : World) (l : List Nat) (h : Sm l) (fz : Nat × Nat) : Rd (w.alloc (.cells (bv l).toArray 5 fz)) (some ⟨w.heap.size, 0, none⟩) l :=
  ⟨h, fun i hi => ⟨w.heap.size, 0, rfl, by
    rw [cell_of_row _ _ _ _ _ _ (heap_alloc_new w _), Nat.zero_add]
    simpa using bv_at l i hi⟩⟩
theorem sm2 {a b : Nat} (ha : a < 256) (hb : b < 256) : Sm [a, b] := Sm.cons ha (Sm.cons hb Sm.nil)
theorem sm1 {a : Nat} (ha : a < 256) : Sm [a] := Sm.cons ha Sm.nil
theorem ex6_seal : lx [5, 6] [1, 1] = [4, 7] := by decide +kernel
theorem ex6_fill : fil [97, 98] 4 = [2, 97, 98, 0] := by decide +kernel
theorem ex6_ok : RemapOk [1] [2] [9] ((1 + 1 : Nat) : Int) [0] := ⟨by decide, by decide, rfl, by decide, by decide, by decide, fun i hi => by
  have h0 : i = 0 := by simp at hi; exact hi
  subst h0
  exact ⟨by decide, by decide, fun k hk => by omega⟩⟩

set_option maxHeartbeats 1600000 in
set_option maxRecDepth 100000 in
theorem awake6 (C : BlindSaid) (w : World) : Calls Try.prog 8 #[] w (Holds w) := by
  have HS := Lib.hid (fun (u : World) => show Calls Try.prog 16 #[.slice (some ⟨u.heap.size, 0, none⟩) 2 2, .slice (some ⟨u.heap.size + 1, 0, none⟩) 2 2] ((u.alloc (.cells #[.int .u8 5, .int .u8 6] 5)).alloc (.cells #[.int .u8 1, .int .u8 1] 5)) (GivesE [4, 7] 0 ((u.alloc (.cells #[.int .u8 5, .int .u8 6] 5)).alloc (.cells #[.int .u8 1, .int .u8 1] 5))) from by
    have h := C.sealYes [5, 6] [1, 1] (some ⟨u.heap.size, 0, none⟩) (some ⟨u.heap.size + 1, 0, none⟩) 2 2 _ ((rd_lit u [5, 6] (sm2 (by omega) (by omega))).ext ((Ext.refl _).alloc _)) (rd_lit_next u _ [1, 1] (sm2 (by omega) (by omega))) (by decide) (by decide) (by decide) (by decide)
    rw [ex6_seal] at h
    exact h)
  have HF := Lib.hid (fun (u : World) => show Calls Try.prog 18 #[.slice (some ⟨u.heap.size, 0, none⟩) 2 2, .int .i64 4] (u.alloc (.cells #[.int .u8 97, .int .u8 98] 5 (2, 3))) (GivesE [2, 97, 98, 0] 0 (u.alloc (.cells #[.int .u8 97, .int .u8 98] 5 (2, 3)))) from by
    have h := C.fill [97, 98] 4 (some ⟨u.heap.size, 0, none⟩) 2 _ (rd_marked u [97, 98] (sm2 (by omega) (by omega)) (2, 3)) (by decide) ⟨by decide, by decide, by decide⟩
    rw [ex6_fill] at h
    exact h)
  have HR := Lib.hid (fun (f : Nat) (u : World) (hf : IsField ((((u.alloc (.cells #[.int .u8 1] 5)).alloc (.cells #[.int .u8 2] 5)).alloc (.cells #[.int .u8 9] 5)).alloc (.cells #[.int .i64 0] 3)) f) =>
    show Calls Try.prog 9 #[.pointer (some ⟨f, 0, none⟩), .slice (some ⟨u.heap.size, 0, none⟩) 1 1, .slice (some ⟨u.heap.size + 1, 0, none⟩) 1 1, .slice (some ⟨u.heap.size + 1 + 1, 0, none⟩) 1 1, .int .i64 2, .slice (some ⟨u.heap.size + 1 + 1 + 1, 0, none⟩) 1 1] ((((u.alloc (.cells #[.int .u8 1] 5)).alloc (.cells #[.int .u8 2] 5)).alloc (.cells #[.int .u8 9] 5)).alloc (.cells #[.int .i64 0] 3)) (fun e w' => ∃ B c, e = .returned (.tuple #[.slice B 1 c, .int .i64 0]) ∧ Ext ((((u.alloc (.cells #[.int .u8 1] 5)).alloc (.cells #[.int .u8 2] 5)).alloc (.cells #[.int .u8 9] 5)).alloc (.cells #[.int .i64 0] 3)) w') from by
    have h := C.remap f [1] [2] [9] 1 [0] (some ⟨u.heap.size, 0, none⟩) (some ⟨u.heap.size + 1, 0, none⟩) (some ⟨u.heap.size + 1 + 1, 0, none⟩) (some ⟨u.heap.size + 1 + 1 + 1, 0, none⟩) 1 1 1 1 _ hf ((rd_lit u [1] (sm1 (by omega))).ext ((((Ext.refl _).alloc _).alloc _).alloc _)) ((rd_lit_next u _ [2] (sm1 (by omega))).ext (((Ext.refl _).alloc _).alloc _)) ((rd_lit_at _ [9] _ (by simp) (sm1 (by omega))).ext ((Ext.refl _).alloc _)) (by
      have h := jrd_one (((u.alloc (.cells #[.int .u8 1] 5)).alloc (.cells #[.int .u8 2] 5)).alloc (.cells #[.int .u8 9] 5)) 0
      simpa using h) (by decide) (by decide) (by decide) (by decide) (by decide) ex6_ok
    refine h.mono ?_
    rintro e w' ⟨v, rfl, ⟨B, c, rfl, _, _⟩, hx⟩
    exact ⟨B, c, by rw [remap_len]; rfl, hx⟩)
  have kc := fun (w : World) (C : Array Value) (n c : Nat) => Lib.run_convert_bytes_const (P := Try.prog) w 22 5 C n c Try.underlying22 Try.underlying5
  clear C
  go_enter Try.func8, Try.ntmps8
  go_wp2_with fail
  refine (HS.out w).mono ?_
  rintro e w1 ⟨v1, rfl, ⟨B1, c1, rfl, hc1, hr1⟩, hx1⟩
  have HX1 := Lib.hid ((((Ext.refl w).alloc _).alloc _).trans hx1)
  have HR1 := Lib.hid hr1
  clear hr1 hx1
  go_wp2_with fail
  refine (HF.out w1).mono ?_
  rintro e w2 ⟨v2, rfl, ⟨B2, c2, rfl, hc2, hr2⟩, hx2⟩
  have HX2 := Lib.hid (((Ext.refl w1).alloc _).trans hx2)
  have HR2 := Lib.hid hr2
  clear hr2 hx2
  go_wp2_with fail
  refine (new_any w2).mono ?_
  rintro e w3 ⟨f, rfl, hf, _, hx3⟩
  have HFF := Lib.hid hf
  have HX3 := Lib.hid hx3
  clear hf hx3
  go_wp2_with fail
  refine (HR.out f w3 (HFF.out.ext (((((Ext.refl _).alloc _).alloc _).alloc _).alloc _))).mono ?_
  rintro e w4 ⟨B4, c4, rfl, hx4⟩
  have HX4 := Lib.hid (HX3.out.trans ((((((Ext.refl w3).alloc _).alloc _).alloc _).alloc _).trans hx4))
  have HQ1 := Lib.hid (HR1.out.ext (HX2.out.trans HX4.out))
  have HQ2 := Lib.hid (HR2.out.ext HX4.out)
  clear hx4
  go_wp2_with fail
  refine (same_tells [4, 7] B1 (some ⟨w4.heap.size, 0, none⟩) c1 2 (w4.alloc (.cells (bv [4, 7]).toArray 5)) (HQ1.out.ext ((Ext.refl w4).alloc _)) (rd_lit w4 [4, 7] (sm2 (by omega) (by omega))) (by decide)).mono ?_
  rintro e w5 ⟨rfl, hx5⟩
  have HX5 := Lib.hid (((Ext.refl w4).alloc _).trans hx5)
  clear hx5
  go_wp2_with fail
  refine (same_tells [2, 97, 98, 0] B2 (some ⟨w5.heap.size, 0, none⟩) c2 4 (w5.alloc (.cells (bv [2, 97, 98, 0]).toArray 5)) ((HQ2.out.ext HX5.out).ext ((Ext.refl w5).alloc _)) (rd_lit w5 [2, 97, 98, 0] (Sm.cons (by omega) (Sm.cons (by omega) (sm2 (by omega) (by omega))))) (by decide)).mono ?_
  rintro e w6 ⟨rfl, hx6⟩
  have HX6 := Lib.hid (((Ext.refl w5).alloc _).trans hx6)
  clear hx6
  go_wp2
  go_ret
  exact ⟨rfl, HX1.out.trans (HX2.out.trans (HX4.out.trans (HX5.out.trans HX6.out)))⟩
end Go.Proofs.Ytjibelmncbfbjaa

/-
  What the document's own Coins of layer 5 does. Conditions: none.
-/
namespace Go.Proofs.Ytjibelmncbfbjaa
open Go.RowKit
open Pol (co Sm ev px py)

set_option maxHeartbeats 800000 in
theorem ref_coins (b o : Int) (w : World) : Calls Try.prog 29 #[.int .i64 b, .int .i64 o] w (Hands (.int .i64 (cnum b o)) w) := by
  unfold cnum
  by_cases h1 : b < 1
  · rw [if_pos (.inl h1)]
    have d1 : decide (b < 1) = true := by simp; omega
    go_enter Try.func29, Try.ntmps29
    go_wp2
    go_ret
    exact ⟨rfl, 0, rfl⟩
  have d1 : decide (b < 1) = false := by simp; omega
  by_cases h2 : o < 2
  · rw [if_pos (.inr (.inl h2))]
    have d2 : decide (o < 2) = true := by simp; omega
    go_enter Try.func29, Try.ntmps29
    go_wp2
    go_ret
    exact ⟨rfl, 0, rfl⟩
  have d2 : decide (o < 2) = false := by simp; omega
  by_cases h3 : 4096 < b
  · rw [if_pos (.inr (.inr (.inl h3)))]
    have d3 : decide (4096 < b) = true := by simp; omega
    go_enter Try.func29, Try.ntmps29
    go_wp2
    go_ret
    exact ⟨rfl, 0, rfl⟩
  have d3 : decide (4096 < b) = false := by simp; omega
  by_cases h4 : 4096 < o
  · rw [if_pos (.inr (.inr (.inr h4)))]
    have d4 : decide (4096 < o) = true := by simp; omega
    go_enter Try.func29, Try.ntmps29
    go_wp2
    go_ret
    exact ⟨rfl, 0, rfl⟩
  have d4 : decide (4096 < o) = false := by simp; omega
  rw [if_neg (by omega)]
  have hm : b * (o - 1) ≤ 4096 * 4096 := Int.mul_le_mul (by omega) (by omega) (by omega) (by omega)
  have hm0 : 0 ≤ b * (o - 1) := Int.mul_nonneg (by omega) (by omega)
  obtain ⟨p, hp⟩ : ∃ p, b * (o - 1) = p := ⟨_, rfl⟩
  rw [hp] at hm hm0 ⊢
  have e1 : IntKind.i64.wrap (o - 1) = o - 1 := IntWalk.i64_in _ (by omega)
  have e2 : IntKind.i64.wrap (b * (o - 1)) = p := by rw [hp]; exact IntWalk.i64_in _ (by omega)
  clear hp
  go_enter Try.func29, Try.ntmps29
  go_wp2
  go_ret
  exact ⟨rfl, 0, rfl⟩
end Go.Proofs.Ytjibelmncbfbjaa

/-
  What the document's own Twice of layer 2 does: it tells whether two points have one place. Conditions: no more than 2^20 points.
-/
namespace Go.Proofs.Ytjibelmncbfbjaa
open Go.RowKit
open Pol (px py Apart)

set_option maxHeartbeats 400000 in
set_option maxRecDepth 100000 in
theorem ref_twice_no (l : List (Nat × Nat)) (A : Option Addr) (ca : Nat) (w : World) (ha : PRd w A l) (hl : l.length ≤ 1048576) (hn : Apart l l.length) :
    Calls Try.prog 30 #[.slice A l.length ca] w (Hands (.bool false) w) := by
  generalize hnn : l.length = n at *
  have HA := Lib.hid ha
  have HN := Lib.hid hnn
  have HD := Lib.hid hn
  clear ha hnn hn
  go_enter Try.func30, Try.ntmps30
  go_wp2
  go_loopg [7] n (fun g s wx => ∃ i m : Nat, i + g = n ∧ s = .int .i64 (i : Int) ∧ wx = w.drewN m ∧ Apart l i)
  case atStart => exact ⟨0, 0, by omega, rfl, rfl, fun i k _ hi => by omega⟩
  case round =>
    obtain ⟨i, m, hig, rfl, rfl, hap⟩ := hrel
    have HP := Lib.hid hap
    clear hap
    cases gk with
    | zero =>
      obtain rfl : n = i := by omega
      clear hig
      go_wp2
      go_ret
      exact ⟨rfl, m, rfl⟩
    | succ g =>
      have hiI : (i : Int) < (n : Int) := by omega
      go_wp2
      go_loopg [4] i (fun g s wx => ∃ k m : Nat, k + g = i ∧ s = .int .i64 (k : Int) ∧ wx = w.drewN m ∧ ∀ k', k' < k → px l i ≠ px l k')
      case atStart => exact ⟨0, m, by omega, rfl, rfl, fun k' h => by omega⟩
      case round =>
        obtain ⟨k, m, hkg, rfl, rfl, hno⟩ := hrel
        have HO := Lib.hid hno
        clear hno
        cases gk with
        | zero =>
          obtain rfl : i = k := by omega
          clear hkg
          go_wp2
          go_roundg g
          case measure => omega
          case rel => exact ⟨i + 1, m, by omega, by go_num, rfl, fun i' k' h1 h2 => by
            by_cases e : i' = i
            · subst e; exact HO.out k' h1
            · exact HP.out i' k' h1 (by omega)⟩
        | succ h =>
          have hk : k < i := by omega
          have hkI : (k : Int) < (i : Int) := by omega
          have hknI : (k : Int) < (n : Int) := by omega
          obtain ⟨b1, o1, e1, hc1, _⟩ := HA.out.2 i (by rw [HN.out]; omega)
          subst e1
          obtain ⟨b2, o2, e2, hc2, _⟩ := HA.out.2 k (by rw [HN.out]; omega)
          injection e2 with e2
          injection e2 with e3 e4
          subst e3
          subst e4
          have d1 : (w.drewN m).cell? ⟨b1, o1 + i * 2, none⟩ = some (.int .u8 ((px l i : Nat) : Int)) := hc1
          have d2 : (w.drewN m).cell? ⟨b1, o1 + k * 2, none⟩ = some (.int .u8 ((px l k : Nat) : Int)) := hc2
          clear hc1 hc2
          generalize hW : w.drewN m = W at d1 d2 ⊢
          have HW := Lib.hid hW
          clear hW
          by_cases hq : px l i = px l k
          · have ht : (((px l i : Nat) : Int) == ((px l k : Nat) : Int)) = true := beq_iff_eq.2 (by omega)
            have HQ := Lib.hid hq
            exact absurd hq (HD.out i k (by omega) (by omega))
          · have ht : (((px l i : Nat) : Int) == ((px l k : Nat) : Int)) = false := beq_eq_false_iff_ne.2 (by omega)
            have HQ := Lib.hid hq
            clear hq
            go_wp2
            go_quiet (fail)
            go_wp2
            go_roundg h
            case measure => omega
            case rel => exact ⟨k + 1, m + nq, by omega, by go_num, by rw [← HW.out, World.drewN_drewN], fun k' h' => by
              by_cases e : k' = k
              · subst e; exact HQ.out
              · exact HO.out k' (by omega)⟩

set_option maxHeartbeats 400000 in
set_option maxRecDepth 100000 in
theorem ref_twice_yes (l : List (Nat × Nat)) (A : Option Addr) (ca : Nat) (w : World) (ha : PRd w A l) (hl : l.length ≤ 1048576) (hn : ¬ Apart l l.length) :
    Calls Try.prog 30 #[.slice A l.length ca] w (Hands (.bool true) w) := by
  generalize hnn : l.length = n at *
  have HA := Lib.hid ha
  have HN := Lib.hid hnn
  have HD := Lib.hid hn
  clear ha hnn hn
  go_enter Try.func30, Try.ntmps30
  go_wp2
  go_loopg [7] n (fun g s wx => ∃ i m : Nat, i + g = n ∧ s = .int .i64 (i : Int) ∧ wx = w.drewN m ∧ Apart l i)
  case atStart => exact ⟨0, 0, by omega, rfl, rfl, fun i k _ hi => by omega⟩
  case round =>
    obtain ⟨i, m, hig, rfl, rfl, hap⟩ := hrel
    have HP := Lib.hid hap
    clear hap
    cases gk with
    | zero =>
      obtain rfl : n = i := by omega
      clear hig
      exact absurd HP.out HD.out
    | succ g =>
      have hiI : (i : Int) < (n : Int) := by omega
      go_wp2
      go_loopg [4] i (fun g s wx => ∃ k m : Nat, k + g = i ∧ s = .int .i64 (k : Int) ∧ wx = w.drewN m ∧ ∀ k', k' < k → px l i ≠ px l k')
      case atStart => exact ⟨0, m, by omega, rfl, rfl, fun k' h => by omega⟩
      case round =>
        obtain ⟨k, m, hkg, rfl, rfl, hno⟩ := hrel
        have HO := Lib.hid hno
        clear hno
        cases gk with
        | zero =>
          obtain rfl : i = k := by omega
          clear hkg
          go_wp2
          go_roundg g
          case measure => omega
          case rel => exact ⟨i + 1, m, by omega, by go_num, rfl, fun i' k' h1 h2 => by
            by_cases e : i' = i
            · subst e; exact HO.out k' h1
            · exact HP.out i' k' h1 (by omega)⟩
        | succ h =>
          have hk : k < i := by omega
          have hkI : (k : Int) < (i : Int) := by omega
          have hknI : (k : Int) < (n : Int) := by omega
          obtain ⟨b1, o1, e1, hc1, _⟩ := HA.out.2 i (by rw [HN.out]; omega)
          subst e1
          obtain ⟨b2, o2, e2, hc2, _⟩ := HA.out.2 k (by rw [HN.out]; omega)
          injection e2 with e2
          injection e2 with e3 e4
          subst e3
          subst e4
          have d1 : (w.drewN m).cell? ⟨b1, o1 + i * 2, none⟩ = some (.int .u8 ((px l i : Nat) : Int)) := hc1
          have d2 : (w.drewN m).cell? ⟨b1, o1 + k * 2, none⟩ = some (.int .u8 ((px l k : Nat) : Int)) := hc2
          clear hc1 hc2
          generalize hW : w.drewN m = W at d1 d2 ⊢
          have HW := Lib.hid hW
          clear hW
          by_cases hq : px l i = px l k
          · have ht : (((px l i : Nat) : Int) == ((px l k : Nat) : Int)) = true := beq_iff_eq.2 (by omega)
            have HQ := Lib.hid hq
            clear hq
            go_wp2
            go_quiet (fail)
            go_wp2
            go_ret
            exact ⟨rfl, _, by rw [← HW.out, World.drewN_drewN]⟩
          · have ht : (((px l i : Nat) : Int) == ((px l k : Nat) : Int)) = false := beq_eq_false_iff_ne.2 (by omega)
            have HQ := Lib.hid hq
            clear hq
            go_wp2
            go_quiet (fail)
            go_wp2
            go_roundg h
            case measure => omega
            case rel => exact ⟨k + 1, m + nq, by omega, by go_num, by rw [← HW.out, World.drewN_drewN], fun k' h' => by
              by_cases e : k' = k
              · subst e; exact HQ.out
              · exact HO.out k' (by omega)⟩
end Go.Proofs.Ytjibelmncbfbjaa

/- What the document's own Trim of layer 2 does: the list without the zeros at its end, in memory of its own. Conditions: no more than 2^20 bytes. -/
namespace Go.Proofs.Ytjibelmncbfbjaa
open Go.RowKit
open Pol (co Sm)

set_option maxHeartbeats 400000 in
set_option maxRecDepth 100000 in
theorem ref_trim_m (l : List Nat) (A : Option Addr) (ca : Nat) (w : World) (ha : Rd w A l) (hc : l.length ≤ ca) (hl : l.length ≤ 1048576) :
    Calls Try.prog 51 #[.slice A l.length ca] w (GivesM (Pol.trim l) w) := by
  generalize hn : l.length = n at hc hl ⊢
  have HA := Lib.hid ha
  have HN := Lib.hid hn
  clear ha hn
  go_enter Try.func51, Try.ntmps51
  go_wp2
  go_loopg [3] n (fun g s wx => g ≤ n ∧ s = .int .i64 (g : Int) ∧ wx = w ∧ ∀ i, g ≤ i → co l i = 0)
  case atStart => exact ⟨Nat.le_refl _, rfl, rfl, fun i hi => Pol.co_out l i (by rw [HN.out]; exact hi)⟩
  case round =>
    obtain ⟨hgn, rfl, rfl, hz⟩ := hrel
    have HZ := Lib.hid hz
    clear hz
    cases gk with
    | zero =>
      have HD := Lib.hid (Or.inl rfl : (0 = 0 ∨ co l (0 - 1) ≠ 0))
      have hr := HA.out.take 0
      have hz : (l.take 0).length = 0 := by rw [List.length_take, HN.out]; omega
      have ht : Pol.trim l = l.take 0 := Pol.trim_of l 0 (by rw [HN.out]; omega) HZ.out HD.out
      have hs := HA.out.1.trim
      have HR := Lib.hid hr
      have HL := Lib.hid hz
      have HT := Lib.hid ht
      have HS := Lib.hid hs
      have HM := Lib.hid (mine_empty wr)
      clear hr hz ht hs
      go_wp2_with (at_builtin; refine wpList_append_rd rfl (.tmp 18) (.tmp 21) rfl wr.heap.size (.slice (some ⟨wr.heap.size, 0, none⟩) 0 0) [] (l.take 0) rfl HM.out _ _ ca rfl HL.out (HR.out.ext ((Ext.refl _).alloc _)) (by rw [HL.out, List.length_nil]; omega) (by simp) ?_; intro v' w' hown' hg' hat')
      go_ret
      exact gives_m hown' (by rw [HT.out]; rfl) HS.out (((Ext.refl _).alloc _).more hg' (by intro k hk; simp [Value.ownBlock] at hk; omega))
    | succ g =>
      obtain ⟨b, o, rfl, hcl⟩ := HA.out.2 g (by rw [HN.out]; omega)
      have hgI : (0 : Int) < (g : Int) + 1 := by omega
      by_cases h0 : co l g = 0
      · have ht : (((co l g : Nat) : Int) == 0) = true := beq_iff_eq.2 (by omega)
        have H0 := Lib.hid h0
        clear h0
        go_wp2
        go_roundg g
        case measure => omega
        case rel => exact ⟨by omega, by go_num, rfl, fun i hi => by
          by_cases e : i = g
          · subst e; exact H0.out
          · exact HZ.out i (by omega)⟩
      · have ht : (((co l g : Nat) : Int) == 0) = false := beq_eq_false_iff_ne.2 (by omega)
        have HD := Lib.hid (Or.inr h0 : (g + 1 = 0 ∨ co l (g + 1 - 1) ≠ 0))
        clear h0
        have hr := HA.out.take (g + 1)
        have hz : (l.take (g + 1)).length = (g + 1) := by rw [List.length_take, HN.out]; omega
        have hq : Pol.trim l = l.take (g + 1) := Pol.trim_of l (g + 1) (by rw [HN.out]; omega) HZ.out HD.out
        have hs := HA.out.1.trim
        have HR := Lib.hid hr
        have HL := Lib.hid hz
        have HT := Lib.hid hq
        have HS := Lib.hid hs
        have HM := Lib.hid (mine_empty wr)
        clear hr hz hq hs
        go_wp2_with (at_builtin; refine wpList_append_rd rfl (.tmp 18) (.tmp 21) rfl wr.heap.size (.slice (some ⟨wr.heap.size, 0, none⟩) 0 0) [] (l.take (g + 1)) rfl HM.out _ _ ca rfl HL.out (HR.out.ext ((Ext.refl _).alloc _)) (by rw [HL.out, List.length_nil]; omega) (by simp) ?_; intro v' w' hown' hg' hat')
        go_ret
        exact gives_m hown' (by rw [HT.out]; rfl) HS.out (((Ext.refl _).alloc _).more hg' (by intro k hk; simp [Value.ownBlock] at hk; omega))
theorem ref_trim (l : List Nat) (A : Option Addr) (ca : Nat) (w : World) (ha : Rd w A l) (hc : l.length ≤ ca) (hl : l.length ≤ 1048576) :
    Calls Try.prog 51 #[.slice A l.length ca] w (Gives (Pol.trim l) w) := (ref_trim_m l A ca w ha hc hl).mono fun _ _ h => h.gives
end Go.Proofs.Ytjibelmncbfbjaa

/-
  What the document's own Add of layer 2 does: the sum, trimmed. Conditions: no more than 2^20 coefficients.
-/
namespace Go.Proofs.Ytjibelmncbfbjaa
open Go.RowKit
open Pol (co Sm)

def sum1 (a : List Nat) (k i : Nat) : Nat := if i < k then co a i else 0
def sum2 (a b : List Nat) (k i : Nat) : Nat := co a i ^^^ (if i < k then co b i else 0)

set_option maxHeartbeats 800000 in
set_option maxRecDepth 100000 in
theorem ref_add_short (a b : List Nat) (A B : Option Addr) (ca cb : Nat) (w : World) (ha : Rd w A a) (hb : Rd w B b) (hla : a.length ≤ 1048576) (hlb : b.length ≤ 1048576) (hlt : a.length < b.length) :
    Calls Try.prog 46 #[.slice A a.length ca, .slice B b.length cb] w (GivesM (Pol.trim (Pol.addP a b)) w) := by
  generalize hna : a.length = na at *
  generalize hnb : b.length = nb at *
  have hmk := fun W => run_make_u8 nb (by omega) W
  have hltI : (na : Int) < (nb : Int) := by omega
  have hna' : na ≤ nb := by omega
  have hnb' : nb ≤ nb := by omega
  have HA := Lib.hid ha
  have HB := Lib.hid hb
  have HNA := Lib.hid hna
  have HNB := Lib.hid hnb
  clear ha hb hna hnb
  go_enter Try.func46, Try.ntmps46
  go_wp2
  clear hmk
  go_loopg [16] na (fun g s wx => ∃ k : Nat, k + g = na ∧ s = .int .i64 (k : Int) ∧ Blk wx w.heap.size nb (sum1 a k) ∧ Ext w wx)
  case atStart => exact ⟨0, by omega, rfl, Blk.new w nb (sum1 a 0), (Ext.refl _).alloc _⟩
  case round =>
    obtain ⟨k, hkg, rfl, hblk, hx⟩ := hrel
    have HX := Lib.hid hx
    have HK := Lib.hid hblk
    clear hx hblk
    cases gk with
    | zero =>
      obtain rfl : na = k := by omega
      clear hkg
      go_wp2
      go_loopg [34] nb (fun g s wx => ∃ j : Nat, j + g = nb ∧ s = .int .i64 (j : Int) ∧ Blk wx w.heap.size nb (sum2 a b j) ∧ Ext w wx)
      case atStart => exact ⟨0, by omega, rfl, HK.out.congr (fun i _ => by
        unfold sum1 sum2
        rw [if_neg (show ¬ i < 0 by omega), Nat.xor_zero]
        split
        · rfl
        · rw [Pol.co_out a i (by rw [HNA.out]; omega)]), HX.out⟩
      case round =>
        obtain ⟨j, hjg, rfl, hblk, hx⟩ := hrel
        have HY := Lib.hid hx
        have HL := Lib.hid hblk
        clear hx hblk
        cases gk with
        | zero =>
          obtain rfl : nb = j := by omega
          clear hjg
          have hsm : ∀ i, i < nb → sum2 a b nb i < 256 := fun i _ => Gf.xor_lt _ _ (HA.out.1 i) (by split; exact HB.out.1 i; omega)
          have hr := HL.out.reads hsm
          have ht : Pol.trim (tab nb (sum2 a b nb)) = Pol.trim (Pol.addP a b) := Pol.trim_ext _ _ (fun i => by
            rw [co_tab, Pol.co_addP]
            unfold sum2
            by_cases h : i < nb
            · rw [if_pos h]
              by_cases h' : i < nb
              · rw [if_pos h']
              · rw [if_neg h', Pol.co_out b i (by rw [HNB.out]; omega)]
            · rw [if_neg h, Pol.co_out a i (by rw [HNA.out]; omega), Pol.co_out b i (by rw [HNB.out]; omega)]; rfl)
          have htr := ref_trim_m (tab nb (sum2 a b nb)) (some ⟨w.heap.size, 0, none⟩) nb _ hr (by rw [tab_len]; exact Nat.le_refl _) (by rw [tab_len]; omega)
          rw [tab_len, ht] at htr
          have HT := Lib.hid htr
          clear htr hr ht hsm
          go_wp2_with fail
          refine HT.out.mono ?_
          rintro e w2 hgv
          have HG := Lib.hid (hgv.after HY.out)
          obtain ⟨v2, rfl, _⟩ := hgv
          go_wp2
          go_ret
          exact HG.out
        | succ g =>
          have hj : j < nb := by omega
          have hjI : (j : Int) < (nb : Int) := by omega
          have hjN : (j : Int) < (nb : Int) := by omega
          obtain ⟨b1, o1, e1, hc⟩ := (HB.out.ext HY.out).2 j (by rw [HNB.out]; exact hj)
          subst e1
          have hc2 := HL.out.cell j (by omega)
          have hfz := HL.out.frozen j
          have hxor := u8_xor_nat (sum2 a b j j) (co b j) (Gf.xor_lt _ _ (HA.out.1 j) (by rw [if_neg (by omega)]; omega)) (HB.out.1 j)
          have hst := HL.out.drewN 1
          have hst2 := hst.store j (sum2 a b j j ^^^ co b j)
          have hup := hst2.congr (f' := sum2 a b (j + 1)) (fun i _ => by
            unfold upd sum2
            by_cases h : i = j
            · subst h; rw [if_pos rfl, if_neg (by omega), if_pos (by omega), Nat.xor_zero]
            · rw [if_neg h]
              by_cases h' : i < j
              · rw [if_pos h', if_pos (by omega)]
              · rw [if_neg h', if_neg (by omega)])
          have HU := Lib.hid hup
          have hext := (HY.out.drewN 1).setCell (p := ⟨w.heap.size, j, none⟩) (Nat.le_refl _) (.int .u8 ((sum2 a b j j ^^^ co b j : Nat) : Int))
          have HE := Lib.hid hext
          clear hst hst2 hup hext
          go_wp2
          go_region
          go_wp2
          go_roundg g
          case measure => omega
          case rel => exact ⟨j + 1, by omega, by go_num, HU.out, HE.out⟩
    | succ g =>
      have hk : k < na := by omega
      have hkI : (k : Int) < (na : Int) := by omega
      have hkN : (k : Int) < (nb : Int) := by omega
      obtain ⟨b1, o1, e1, hc⟩ := (HA.out.ext HX.out).2 k (by rw [HNA.out]; exact hk)
      subst e1
      have hc2 := HK.out.cell k (by omega)
      have hfz := HK.out.frozen k
      have hxor := u8_xor_nat (sum1 a k k) (co a k) (by unfold sum1; rw [if_neg (by omega)]; omega) (HA.out.1 k)
      have hst := HK.out.drewN 1
      have hst2 := hst.store k (sum1 a k k ^^^ co a k)
      have hup := hst2.congr (f' := sum1 a (k + 1)) (fun i _ => by
        unfold upd sum1
        by_cases h : i = k
        · subst h; rw [if_pos rfl, if_neg (by omega), if_pos (by omega), Nat.zero_xor]
        · rw [if_neg h]
          by_cases h' : i < k
          · rw [if_pos h', if_pos (by omega)]
          · rw [if_neg h', if_neg (by omega)])
      have HU := Lib.hid hup
      have hext := (HX.out.drewN 1).setCell (p := ⟨w.heap.size, k, none⟩) (Nat.le_refl _) (.int .u8 ((sum1 a k k ^^^ co a k : Nat) : Int))
      have HE := Lib.hid hext
      clear hst hst2 hup hext
      go_wp2
      go_region
      go_wp2
      go_roundg g
      case measure => omega
      case rel => exact ⟨k + 1, by omega, by go_num, HU.out, HE.out⟩

set_option maxHeartbeats 800000 in
set_option maxRecDepth 100000 in
theorem ref_add_long (a b : List Nat) (A B : Option Addr) (ca cb : Nat) (w : World) (ha : Rd w A a) (hb : Rd w B b) (hla : a.length ≤ 1048576) (_hlb : b.length ≤ 1048576) (hlt : ¬ a.length < b.length) :
    Calls Try.prog 46 #[.slice A a.length ca, .slice B b.length cb] w (GivesM (Pol.trim (Pol.addP a b)) w) := by
  generalize hna : a.length = na at *
  generalize hnb : b.length = nb at *
  have hmk := fun W => run_make_u8 na (by omega) W
  have hltI : ¬ (na : Int) < (nb : Int) := by omega
  have hna' : na ≤ na := by omega
  have hnb' : nb ≤ na := by omega
  have HA := Lib.hid ha
  have HB := Lib.hid hb
  have HNA := Lib.hid hna
  have HNB := Lib.hid hnb
  clear ha hb hna hnb
  go_enter Try.func46, Try.ntmps46
  go_wp2
  clear hmk
  go_loopg [16] na (fun g s wx => ∃ k : Nat, k + g = na ∧ s = .int .i64 (k : Int) ∧ Blk wx w.heap.size na (sum1 a k) ∧ Ext w wx)
  case atStart => exact ⟨0, by omega, rfl, Blk.new w na (sum1 a 0), (Ext.refl _).alloc _⟩
  case round =>
    obtain ⟨k, hkg, rfl, hblk, hx⟩ := hrel
    have HX := Lib.hid hx
    have HK := Lib.hid hblk
    clear hx hblk
    cases gk with
    | zero =>
      obtain rfl : na = k := by omega
      clear hkg
      go_wp2
      go_loopg [34] nb (fun g s wx => ∃ j : Nat, j + g = nb ∧ s = .int .i64 (j : Int) ∧ Blk wx w.heap.size na (sum2 a b j) ∧ Ext w wx)
      case atStart => exact ⟨0, by omega, rfl, HK.out.congr (fun i _ => by
        unfold sum1 sum2
        rw [if_neg (show ¬ i < 0 by omega), Nat.xor_zero]
        split
        · rfl
        · rw [Pol.co_out a i (by rw [HNA.out]; omega)]), HX.out⟩
      case round =>
        obtain ⟨j, hjg, rfl, hblk, hx⟩ := hrel
        have HY := Lib.hid hx
        have HL := Lib.hid hblk
        clear hx hblk
        cases gk with
        | zero =>
          obtain rfl : nb = j := by omega
          clear hjg
          have hsm : ∀ i, i < na → sum2 a b nb i < 256 := fun i _ => Gf.xor_lt _ _ (HA.out.1 i) (by split; exact HB.out.1 i; omega)
          have hr := HL.out.reads hsm
          have ht : Pol.trim (tab na (sum2 a b nb)) = Pol.trim (Pol.addP a b) := Pol.trim_ext _ _ (fun i => by
            rw [co_tab, Pol.co_addP]
            unfold sum2
            by_cases h : i < na
            · rw [if_pos h]
              by_cases h' : i < nb
              · rw [if_pos h']
              · rw [if_neg h', Pol.co_out b i (by rw [HNB.out]; omega)]
            · rw [if_neg h, Pol.co_out a i (by rw [HNA.out]; omega), Pol.co_out b i (by rw [HNB.out]; omega)]; rfl)
          have htr := ref_trim_m (tab na (sum2 a b nb)) (some ⟨w.heap.size, 0, none⟩) na _ hr (by rw [tab_len]; exact Nat.le_refl _) (by rw [tab_len]; omega)
          rw [tab_len, ht] at htr
          have HT := Lib.hid htr
          clear htr hr ht hsm
          go_wp2_with fail
          refine HT.out.mono ?_
          rintro e w2 hgv
          have HG := Lib.hid (hgv.after HY.out)
          obtain ⟨v2, rfl, _⟩ := hgv
          go_wp2
          go_ret
          exact HG.out
        | succ g =>
          have hj : j < nb := by omega
          have hjI : (j : Int) < (nb : Int) := by omega
          have hjN : (j : Int) < (na : Int) := by omega
          obtain ⟨b1, o1, e1, hc⟩ := (HB.out.ext HY.out).2 j (by rw [HNB.out]; exact hj)
          subst e1
          have hc2 := HL.out.cell j (by omega)
          have hfz := HL.out.frozen j
          have hxor := u8_xor_nat (sum2 a b j j) (co b j) (Gf.xor_lt _ _ (HA.out.1 j) (by rw [if_neg (by omega)]; omega)) (HB.out.1 j)
          have hst := HL.out.drewN 1
          have hst2 := hst.store j (sum2 a b j j ^^^ co b j)
          have hup := hst2.congr (f' := sum2 a b (j + 1)) (fun i _ => by
            unfold upd sum2
            by_cases h : i = j
            · subst h; rw [if_pos rfl, if_neg (by omega), if_pos (by omega), Nat.xor_zero]
            · rw [if_neg h]
              by_cases h' : i < j
              · rw [if_pos h', if_pos (by omega)]
              · rw [if_neg h', if_neg (by omega)])
          have HU := Lib.hid hup
          have hext := (HY.out.drewN 1).setCell (p := ⟨w.heap.size, j, none⟩) (Nat.le_refl _) (.int .u8 ((sum2 a b j j ^^^ co b j : Nat) : Int))
          have HE := Lib.hid hext
          clear hst hst2 hup hext
          go_wp2
          go_region
          go_wp2
          go_roundg g
          case measure => omega
          case rel => exact ⟨j + 1, by omega, by go_num, HU.out, HE.out⟩
    | succ g =>
      have hk : k < na := by omega
      have hkI : (k : Int) < (na : Int) := by omega
      have hkN : (k : Int) < (na : Int) := by omega
      obtain ⟨b1, o1, e1, hc⟩ := (HA.out.ext HX.out).2 k (by rw [HNA.out]; exact hk)
      subst e1
      have hc2 := HK.out.cell k (by omega)
      have hfz := HK.out.frozen k
      have hxor := u8_xor_nat (sum1 a k k) (co a k) (by unfold sum1; rw [if_neg (by omega)]; omega) (HA.out.1 k)
      have hst := HK.out.drewN 1
      have hst2 := hst.store k (sum1 a k k ^^^ co a k)
      have hup := hst2.congr (f' := sum1 a (k + 1)) (fun i _ => by
        unfold upd sum1
        by_cases h : i = k
        · subst h; rw [if_pos rfl, if_neg (by omega), if_pos (by omega), Nat.zero_xor]
        · rw [if_neg h]
          by_cases h' : i < k
          · rw [if_pos h', if_pos (by omega)]
          · rw [if_neg h', if_neg (by omega)])
      have HU := Lib.hid hup
      have hext := (HX.out.drewN 1).setCell (p := ⟨w.heap.size, k, none⟩) (Nat.le_refl _) (.int .u8 ((sum1 a k k ^^^ co a k : Nat) : Int))
      have HE := Lib.hid hext
      clear hst hst2 hup hext
      go_wp2
      go_region
      go_wp2
      go_roundg g
      case measure => omega
      case rel => exact ⟨k + 1, by omega, by go_num, HU.out, HE.out⟩

theorem ref_add_m (a b : List Nat) (A B : Option Addr) (ca cb : Nat) (w : World) (ha : Rd w A a) (hb : Rd w B b) (hla : a.length ≤ 1048576) (hlb : b.length ≤ 1048576) :
    Calls Try.prog 46 #[.slice A a.length ca, .slice B b.length cb] w (GivesM (Pol.trim (Pol.addP a b)) w) := by
  by_cases h : a.length < b.length
  · exact ref_add_short a b A B ca cb w ha hb hla hlb h
  · exact ref_add_long a b A B ca cb w ha hb hla hlb h
theorem ref_add (a b : List Nat) (A B : Option Addr) (ca cb : Nat) (w : World) (ha : Rd w A a) (hb : Rd w B b) (hla : a.length ≤ 1048576) (hlb : b.length ≤ 1048576) :
    Calls Try.prog 46 #[.slice A a.length ca, .slice B b.length cb] w (Gives (Pol.trim (Pol.addP a b)) w) := (ref_add_m a b A B ca cb w ha hb hla hlb).mono fun _ _ h => h.gives
end Go.Proofs.Ytjibelmncbfbjaa

/-
  The document's own answer for layer 1, as the statements hold it: the product bit by bit. Conditions: none beyond the kinds of the arguments.
-/
namespace Go.Proofs.Ytjibelmncbfbjaa
open Go.RowKit

theorem i64_xor (a b : Nat) (ha : a < 512) (hb : b < 512) : bits .xor .i64 (a : Int) (b : Int) = ((a ^^^ b : Nat) : Int) := by
  have hx : a ^^^ b < 2 ^ 9 := Nat.xor_lt_two_pow (by omega) (by omega)
  have h : ∀ c : Nat, c < 512 → (BitVec.ofInt 64 (c : Int)).toNat = c := fun c hc => by
    rw [BitVec.ofInt_natCast, BitVec.toNat_ofNat]; exact Nat.mod_eq_of_lt (by omega)
  show IntKind.i64.wrap ((BitVec.ofInt 64 (a : Int) ^^^ BitVec.ofInt 64 (b : Int)).toNat : Int) = _
  rw [BitVec.toNat_xor, h a ha, h b hb]
  exact IntWalk.i64_in _ (by omega)

theorem dbl_low (x : Nat) (h : x < 128) : Gf.dbl x = x * 2 := by
  unfold Gf.dbl; rw [if_pos h, Nat.xor_zero]; omega
theorem dbl_high : ∀ x, x < 256 → 128 ≤ x → (x * 2) ^^^ 283 = Gf.dbl x := by decide +kernel

def MulAt (a b : Nat) (o x y : Value) : Prop := ∃ p q r : Nat, p < 256 ∧ q < 256 ∧ r < 256 ∧ o = .int .i64 (p : Int) ∧ x = .int .i64 (q : Int) ∧ y = .int .i64 (r : Int) ∧ p ^^^ Gf.mul q r = Gf.mul a b

set_option maxHeartbeats 400000 in
set_option maxRecDepth 100000 in
theorem ref_mul (a b : Nat) (ha : a < 256) (hb : b < 256) (w : World) :
    Calls Try.prog 32 #[.int .u8 (a : Int), .int .u8 (b : Int)] w fun e w' => e = .returned (.int .u8 ((Gf.mul a b : Nat) : Int)) ∧ w = w' := by
  have haI : (a : Int) < 256 := by omega
  have hbI : (b : Int) < 256 := by omega
  go_enter Try.func32, Try.ntmps32
  go_wp2
  go_loop [5, 6, 7] (fun o x y => MulAt a b o x y) (fun _ _ y => (intOf y).toNat)
  case atStart => exact ⟨0, a, b, by omega, ha, hb, rfl, rfl, rfl, by rw [Nat.zero_xor]⟩
  case round =>
    obtain ⟨p, q, r, hp, hq, hr, rfl, rfl, rfl, hinv⟩ := hrel
    have HI := Lib.hid hinv
    clear hinv
    by_cases r0 : r = 0
    · subst r0
      have hpI : (p : Int) < 256 := by omega
      go_wp2
      go_ret
      exact ⟨ret_int (by rw [← HI.out, Gf.mul_zero, Nat.xor_zero]), rfl⟩
    · have hs := Gf.mul_step q r hq hr
      have HS := Lib.hid hs
      clear hs
      have hr0 : (0 : Int) < (r : Int) := by omega
      have hrI : (r : Int) < 256 := by omega
      have hqI : (q : Int) < 256 := by omega
      have hpI : (p : Int) < 256 := by omega
      have hd := Gf.dbl_lt q hq
      have HDL := Lib.hid hd
      clear hd
      have hx := i64_xor p q (by omega) (by omega)
      have hpq := Gf.xor_lt p q hp hq
      have HPQ := Lib.hid hpq
      clear hpq
      have HX := Lib.hid hx
      clear hx
      by_cases hodd : r % 2 = 1
      · have ho : ((r : Int) % 2 == 1) = true := beq_iff_eq.2 (by omega)
        have HO := Lib.hid hodd
        clear hodd
        by_cases hlow : q < 128
        · skip
          have hlI : (q : Int) < 128 := by omega
          have hlt : ¬ (255 : Int) < (q : Int) * 2 := by omega
          have hdl := dbl_low q hlow
          have HD := Lib.hid hdl
          clear hdl
          go_wp2
          go_round
          case rel => exact ⟨(p ^^^ q), Gf.dbl q, r / 2, HPQ.out, HDL.out, by omega, congrArg (Value.int IntKind.i64) HX.out, congrArg (Value.int IntKind.i64) (by rw [HD.out]; omega), by go_num, by rw [← HI.out, HS.out, if_pos HO.out, Nat.xor_assoc]⟩
          case measure => simp [intOf]; omega
        · skip
          have hlI : (128 : Int) ≤ (q : Int) := by omega
          have hlt : (255 : Int) < (q : Int) * 2 := by omega
          have hdl := dbl_high q hq (by omega)
          have hy := i64_xor (q * 2) 283 (by omega) (by omega)
          have HY := Lib.hid hy
          clear hy
          have HD := Lib.hid hdl
          clear hdl
          go_wp2
          go_round
          case rel => exact ⟨(p ^^^ q), Gf.dbl q, r / 2, HPQ.out, HDL.out, by omega, congrArg (Value.int IntKind.i64) HX.out, congrArg (Value.int IntKind.i64) (by rw [← HD.out, ← HY.out]; congr 1), by go_num, by rw [← HI.out, HS.out, if_pos HO.out, Nat.xor_assoc]⟩
          case measure => simp [intOf]; omega
      · have ho : ((r : Int) % 2 == 1) = false := beq_eq_false_iff_ne.2 (by omega)
        have HO := Lib.hid hodd
        clear hodd
        by_cases hlow : q < 128
        · skip
          have hlI : (q : Int) < 128 := by omega
          have hlt : ¬ (255 : Int) < (q : Int) * 2 := by omega
          have hdl := dbl_low q hlow
          have HD := Lib.hid hdl
          clear hdl
          go_wp2
          go_round
          case rel => exact ⟨p, Gf.dbl q, r / 2, hp, HDL.out, by omega, rfl, congrArg (Value.int IntKind.i64) (by rw [HD.out]; omega), by go_num, by rw [← HI.out, HS.out, if_neg HO.out, Nat.zero_xor]⟩
          case measure => simp [intOf]; omega
        · skip
          have hlI : (128 : Int) ≤ (q : Int) := by omega
          have hlt : (255 : Int) < (q : Int) * 2 := by omega
          have hdl := dbl_high q hq (by omega)
          have hy := i64_xor (q * 2) 283 (by omega) (by omega)
          have HY := Lib.hid hy
          clear hy
          have HD := Lib.hid hdl
          clear hdl
          go_wp2
          go_round
          case rel => exact ⟨p, Gf.dbl q, r / 2, hp, HDL.out, by omega, rfl, congrArg (Value.int IntKind.i64) (by rw [← HD.out, ← HY.out]; congr 1), by go_num, by rw [← HI.out, HS.out, if_neg HO.out, Nat.zero_xor]⟩
          case measure => simp [intOf]; omega

theorem ref_mul_is (a b v : Nat) (ha : a < 256) (hb : b < 256) (h : Gf.mul a b = v) (w : World) :
    Calls Try.prog 32 #[.int .u8 (a : Int), .int .u8 (b : Int)] w fun e w' => e = .returned (.int .u8 (v : Int)) ∧ w = w' := h ▸ ref_mul a b ha hb w

end Go.Proofs.Ytjibelmncbfbjaa

/-
  What the document's own Mul of layer 2 does: the product, trimmed. Conditions: no more than 2^20 coefficients.
-/
namespace Go.Proofs.Ytjibelmncbfbjaa
open Go.RowKit
open Pol (co Sm)

/-- The coefficient at place j, behind i whole rows, and k places of the next one. -/
def row (a b : List Nat) (i k j : Nat) : Nat := Pol.pc i (co a) (co b) j ^^^ (if i ≤ j ∧ j < i + k then Gf.mul (co a i) (co b (j - i)) else 0)
theorem pc_lt (n : Nat) (A B : Nat → Nat) (j : Nat) : Pol.pc n A B j < 256 := Pol.xs_lt n (fun i _ => by split; exact Gf.mul_lt _ _; omega)
theorem row_lt (a b : List Nat) (i k j : Nat) : row a b i k j < 256 := Gf.xor_lt _ _ (pc_lt _ _ _ _) (by split; exact Gf.mul_lt _ _; omega)
theorem row_zero (a b : List Nat) (i j : Nat) : row a b i 0 j = Pol.pc i (co a) (co b) j := by
  unfold row
  rw [if_neg (by omega), Nat.xor_zero]
theorem row_next (a b : List Nat) (i j : Nat) : row a b i b.length j = row a b (i + 1) 0 j := by
  rw [row_zero]
  unfold row Pol.pc
  rw [Pol.xs]
  congr 1
  by_cases h : i ≤ j
  · rw [if_pos h]
    by_cases h' : j < i + b.length
    · rw [if_pos ⟨h, h'⟩]
    · rw [if_neg (by omega), Pol.co_out b (j - i) (by omega), Gf.mul_zero]
  · rw [if_neg h, if_neg (by omega)]
theorem row_step (a b : List Nat) (i k j : Nat) : upd (row a b i k) (i + k) (row a b i k (i + k) ^^^ Gf.mul (co a i) (co b k)) j = row a b i (k + 1) j := by
  unfold upd
  by_cases h : j = i + k
  · subst h
    rw [if_pos rfl]
    unfold row
    rw [if_neg (by omega), if_pos (by omega), Nat.xor_zero, Nat.add_sub_cancel_left]
  · rw [if_neg h]
    unfold row
    by_cases h' : i ≤ j ∧ j < i + k
    · rw [if_pos h', if_pos (by omega)]
    · rw [if_neg h', if_neg (by omega)]

set_option maxHeartbeats 1000000 in
set_option maxRecDepth 100000 in
theorem ref_pmul (a b : List Nat) (A B : Option Addr) (ca cb : Nat) (w : World) (ha : Rd w A a) (hb : Rd w B b) (hla : a.length ≤ 524288) (hlb : b.length ≤ 524288) :
    Calls Try.prog 45 #[.slice A a.length ca, .slice B b.length cb] w (Gives (Pol.trim (Pol.mulP a b)) w) := by
  have hnext := row_next a b
  generalize hna : a.length = na at *
  generalize hnb : b.length = nb at *
  obtain ⟨N, hN⟩ : ∃ N, na + nb = N := ⟨_, rfl⟩
  have hmk := fun W => run_make_u8 N (by omega) W
  have HA := Lib.hid ha
  have HB := Lib.hid hb
  have HNA := Lib.hid hna
  have HNB := Lib.hid hnb
  have HNX := Lib.hid hnext
  clear ha hb hna hnb hnext
  have hcast : (N : Int) = (na : Int) + (nb : Int) := by omega
  have HN := Lib.hid hN
  rw [hcast] at hmk
  clear hcast hN
  go_enter Try.func45, Try.ntmps45
  go_wp2
  clear hmk
  go_loopg [16] na (fun g s wx => ∃ i : Nat, i + g = na ∧ s = .int .i64 (i : Int) ∧ Blk wx w.heap.size N (row a b i 0) ∧ Ext w wx)
  case atStart => exact ⟨0, by omega, rfl, (Blk.new w N (fun _ => 0)).congr (fun j _ => by rw [row_zero]; rfl), (Ext.refl _).alloc _⟩
  case round =>
    obtain ⟨i, hig, rfl, hblk, hx⟩ := hrel
    have HX := Lib.hid hx
    have HK := Lib.hid hblk
    clear hx hblk
    cases gk with
    | zero =>
      obtain rfl : na = i := by omega
      clear hig
      have hr := HK.out.reads (fun j _ => row_lt a b na 0 j)
      have ht : Pol.trim (tab N (row a b na 0)) = Pol.trim (Pol.mulP a b) := Pol.trim_ext _ _ (fun j => by
        rw [co_tab, Pol.co_mulP, HNA.out, row_zero]
        split
        · rfl
        · rename_i h
          refine (Pol.xs_zero na (fun i hi => ?_)).symm
          by_cases h' : i ≤ j
          · rw [if_pos h', Pol.co_out b (j - i) (by rw [HNB.out]; have := HN.out; omega), Gf.mul_zero]
          · rw [if_neg h'])
      have htr := ref_trim (tab N (row a b na 0)) (some ⟨w.heap.size, 0, none⟩) N _ hr (by rw [tab_len]; exact Nat.le_refl _) (by rw [tab_len]; have := HN.out; omega)
      rw [tab_len, ht] at htr
      have HT := Lib.hid htr
      clear htr hr ht
      go_wp2_with fail
      refine HT.out.mono ?_
      rintro e w2 ⟨V, c, rfl, hc, hrd, hxx⟩
      have HR := Lib.hid hrd
      have HXX := Lib.hid hxx
      clear hrd hxx
      go_wp2
      go_ret
      exact ⟨V, c, rfl, hc, HR.out, HX.out.trans HXX.out⟩
    | succ g =>
      have hiI : (i : Int) < (na : Int) := by omega
      go_wp2
      go_loopg [21] nb (fun g s wx => ∃ k : Nat, k + g = nb ∧ s = .int .i64 (k : Int) ∧ Blk wx w.heap.size N (row a b i k) ∧ Ext w wx)
      case atStart => exact ⟨0, by omega, rfl, HK.out, HX.out⟩
      case round =>
        obtain ⟨k, hkg, rfl, hblk, hx⟩ := hrel
        have HY := Lib.hid hx
        have HL := Lib.hid hblk
        clear hx hblk
        cases gk with
        | zero =>
          obtain rfl : nb = k := by omega
          clear hkg
          go_wp2
          go_roundg g
          case measure => omega
          case rel => exact ⟨i + 1, by omega, by go_num, HL.out.congr (fun j _ => HNX.out i j), HY.out⟩
        | succ h =>
          have hk : k < nb := by omega
          have hkI : (k : Int) < (nb : Int) := by omega
          obtain ⟨s, hs⟩ : ∃ s, i + k = s := ⟨_, rfl⟩
          have hsN : (s : Int) < (N : Int) := by have := HN.out; omega
          have hw : IntKind.i64.wrap ((i : Int) + (k : Int)) = (s : Int) := by rw [IntWalk.i64_in _ (by omega)]; omega
          obtain ⟨b1, o1, e1, hc1⟩ := (HA.out.ext HY.out).2 i (by rw [HNA.out]; omega)
          subst e1
          obtain ⟨b2, o2, e2, hc2⟩ := (HB.out.ext HY.out).2 k (by rw [HNB.out]; omega)
          subst e2
          have hc3 := HL.out.cell s (by have := HN.out; omega)
          have hfz := HL.out.frozen s
          have hxor := u8_xor_nat (row a b i k s) (Gf.mul (co a i) (co b k)) (row_lt _ _ _ _ _) (Gf.mul_lt _ _)
          have hst := ((HL.out.drewN 1).store s (row a b i k s ^^^ Gf.mul (co a i) (co b k))).congr (f' := row a b i (k + 1)) (fun j _ => by rw [← hs]; exact row_step a b i k j)
          have HU := Lib.hid hst
          have hext := (HY.out.drewN 1).setCell (p := ⟨w.heap.size, s, none⟩) (Nat.le_refl _) (.int .u8 ((row a b i k s ^^^ Gf.mul (co a i) (co b k) : Nat) : Int))
          have HE := Lib.hid hext
          have hcm := fun W => (ref_mul (co a i) (co b k) (HA.out.1 i) (HB.out.1 k) W).mono fun _ _ h => (⟨h.1, h.2.symm⟩ : _ ∧ _ = W)
          have HM := Lib.hid hcm
          have HS := Lib.hid hs
          clear hst hext hcm hs
          go_wp2
          go_still_tail 21, (by kernel_rfl)
          still_call (HM.out _)
          repeat still_step
          refine wpStill_nil ?_
          change wpList _ _ _ _ _ wr.drew
          go_wp2
          go_roundg h
          case measure => omega
          case rel => exact ⟨k + 1, by omega, by go_num, HU.out, HE.out⟩
end Go.Proofs.Ytjibelmncbfbjaa

/-
  The document's own answer for layer 1, as the statements hold it: the inverse, by trying. Conditions: none beyond the kinds of the arguments.
-/
namespace Go.Proofs.Ytjibelmncbfbjaa
open Go.RowKit

/-! The inverse, by trying. -/
def Tried (a : Nat) (i : Value) : Prop := ∃ k : Nat, k ≤ 256 ∧ i = .int .i64 (k : Int) ∧ ∀ j, j < k → Gf.mul a j ≠ 1

set_option maxHeartbeats 400000 in
set_option maxRecDepth 100000 in
theorem ref_inv (a : Nat) (ha : a < 256) (a0 : a ≠ 0) (w : World) :
    Calls Try.prog 44 #[.int .u8 (a : Int)] w fun e w' => e = .returned (.tuple #[.int .u8 ((Gf.quo 1 a : Nat) : Int), .bool true]) ∧ w = w' := by
  go_enter Try.func44, Try.ntmps44
  go_wp2
  go_loop [4] (fun i => Tried a i) (fun i => 256 - (intOf i).toNat)
  case atStart => exact ⟨0, by omega, rfl, fun j h => by omega⟩
  case round =>
    obtain ⟨k, hk, rfl, hno⟩ := hrel
    have hq := Gf.quo_mul 1 a (by omega) ha a0
    have hql := Gf.quo_lt 1 a
    by_cases he : k = 256
    · exact absurd ((Gf.mul_comm _ _).trans hq) (hno _ (by omega))
    have hkI : (k : Int) < 256 := by omega
    by_cases h1 : Gf.mul a k = 1
    · have hv : Gf.quo 1 a = k := Gf.quo_of 1 a k (by omega) ha a0 (by omega) ((Gf.mul_comm _ _).trans h1)
      have HV := Lib.hid hv
      have H1 := Lib.hid h1
      clear hv h1 hq hno hql
      go_wp2_with fail
      refine (ref_mul_is a k 1 ha (by omega) H1.out _).mono ?_
      rintro e w' ⟨rfl, rfl⟩
      go_wp2_with fail
      go_ret2
      exact ⟨by rw [HV.out]; rfl, rfl⟩
    · have hne : (((Gf.mul a k : Nat) : Int) == 1) = false := beq_eq_false_iff_ne.2 (by omega)
      have HN := Lib.hid hno
      have H1 := Lib.hid h1
      clear hno h1 hq hql
      go_wp2_with fail
      refine (ref_mul a k ha (by omega) _).mono ?_
      rintro e w' ⟨rfl, rfl⟩
      go_wp2_with fail
      go_round
      case rel => exact ⟨k + 1, by omega, by go_num, fun j hj => by
        by_cases e : j = k
        · subst e; exact H1.out
        · exact HN.out j (by omega)⟩
      case measure => simp [intOf]; omega

set_option maxHeartbeats 400000 in
set_option maxRecDepth 100000 in
theorem ref_inv_zero (w : World) :
    Calls Try.prog 44 #[.int .u8 0] w fun e w' => e = .returned (.tuple #[.int .u8 0, .bool false]) ∧ w = w' := by
  go_enter Try.func44, Try.ntmps44
  go_wp2
  go_loop [4] (fun i => Tried 0 i) (fun i => 256 - (intOf i).toNat)
  case atStart => exact ⟨0, by omega, rfl, fun j h => by omega⟩
  case round =>
    obtain ⟨k, hk, rfl, hno⟩ := hrel
    clear hno
    by_cases he : k = 256
    · subst he
      go_wp2_with fail
      go_ret2
      exact ⟨rfl, rfl⟩
    have hkI : (k : Int) < 256 := by omega
    go_wp2_with fail
    refine (ref_mul_is 0 k 0 (by omega) (by omega) (Gf.zero_mul k) _).mono ?_
    rintro e w' ⟨rfl, rfl⟩
    go_wp2_with fail
    go_round
    case rel => exact ⟨k + 1, by omega, by go_num, fun j _ => by rw [Gf.zero_mul]; omega⟩
    case measure => simp [intOf]; omega

end Go.Proofs.Ytjibelmncbfbjaa

/-
  What the document's own Through of layer 2 does: the polynomial through points of which no place is there twice. Conditions: no more than 2^16 points.
-/
namespace Go.Proofs.Ytjibelmncbfbjaa
open Go.RowKit
open Pol (co Sm px py Apart lag thr dd)

set_option maxHeartbeats 800000 in
set_option maxRecDepth 100000 in
theorem ref_through_m (l : List (Nat × Nat)) (A : Option Addr) (ca : Nat) (w : World) (ha : PRd w A l) (hl : l.length ≤ 65536) (hd : Apart l l.length) :
    Calls Try.prog 31 #[.slice A l.length ca] w (GivesM (thr l l.length) w) := by
  generalize hnn : l.length = n at hl hd ⊢
  have HA := Lib.hid ha
  have HN := Lib.hid hnn
  have HD := Lib.hid hd
  clear ha hnn hd
  go_enter Try.func31, Try.ntmps31
  go_wp2
  go_loopg [3, 11] n (fun g s3 s11 wx => ∃ i : Nat, i + g = n ∧ s11 = .int .i64 (i : Int) ∧ Mine wx w.heap.size s3 (thr l i) ∧ Ext w wx)
  case atStart => exact ⟨0, by omega, rfl, Mine.nil _ _, Ext.refl _⟩
  case round =>
    obtain ⟨i, hig, rfl, hmi, hx⟩ := hrel
    obtain ⟨V, cv, rfl, hcv, hrv⟩ := hmi.slice (Pol.thr_sm l HA.out.1 i)
    have HX := Lib.hid hx
    have HMI := Lib.hid hmi
    have HSM := Lib.hid (Pol.thr_sm l HA.out.1 i)
    clear hmi
    have HV := Lib.hid hrv
    have HC := Lib.hid hcv
    clear hx hrv hcv
    cases gk with
    | zero =>
      obtain rfl : n = i := by omega
      clear hig
      go_wp2
      go_ret
      exact ⟨_, rfl, HMI.out, HSM.out, HX.out⟩
    | succ g =>
      have hiI : (i : Int) < (n : Int) := by omega
      obtain ⟨b1, o1, e1, _, hcy⟩ := (HA.out.ext HX.out).2 i (by rw [HN.out]; omega)
      subst e1
      have hpy := (HA.out.1 i).2
      have hlag0 : Rd (wr.alloc (.cells #[.int .u8 ((py l i : Nat) : Int)] 5)) (some ⟨wr.heap.size, 0, none⟩) (lag l i 0) := rd_one wr _ hpy
      have HL0 := Lib.hid hlag0
      clear hlag0
      go_wp2
      go_loopg [5, 22] n (fun g s5 s22 wx => ∃ k : Nat, k + g = n ∧ s22 = .int .i64 (k : Int) ∧ Sl wx s5 (lag l i k) ∧ Ext wr wx)
      case atStart => exact ⟨0, by omega, rfl, ⟨_, 1, rfl, Nat.le_refl _, HL0.out⟩, (Ext.refl _).alloc _⟩
      case round =>
        obtain ⟨k, hkg, rfl, ⟨U, cu, rfl, hcu, hru⟩, hy⟩ := hrel
        have HY := Lib.hid hy
        have HU := Lib.hid hru
        have HCU := Lib.hid hcu
        clear hy hru hcu
        cases gk with
        | zero =>
          obtain rfl : n = k := by omega
          clear hkg
          have hlt : (thr l i).length ≤ 1048576 := by
            have h1 := Pol.trim_le (thr l i) l.length (Pol.thr_len l i (by rw [HN.out]; omega))
            rw [Pol.thr_trim, HN.out] at h1
            omega
          have hlu : (lag l i n).length ≤ 1048576 := by
            have h1 := Pol.lag_len l i n
            split at h1 <;> omega
          have HLT := Lib.hid hlt
          have HLU := Lib.hid hlu
          have hthr : thr l (i + 1) = Pol.trim (Pol.addP (thr l i) (lag l i n)) := by rw [thr, HN.out]
          have HTH := Lib.hid hthr
          clear hlt hlu hthr
          go_wp2_with fail
          refine (ref_add_m (thr l i) (lag l i n) V U cv cu _ (HV.out.ext HY.out) HU.out HLT.out HLU.out).mono ?_
          rintro e w2 ⟨v2, rfl, hmB, _, hxB⟩
          have HB := Lib.hid (hmB.down (HX.out.trans HY.out).size)
          have HXB := Lib.hid hxB
          clear hmB hxB
          go_wp2
          go_roundg g
          case measure => omega
          case rel => exact ⟨i + 1, by omega, by go_num, by rw [HTH.out]; exact HB.out, (HX.out.trans HY.out).trans HXB.out⟩
        | succ h =>
          have hkI : (k : Int) < (n : Int) := by omega
          by_cases hki : k = i
          · have hne : ((k : Int) != (i : Int)) = false := by subst hki; simp
            have hlag : lag l i (k + 1) = lag l i k := by rw [lag, if_pos hki]
            have HLG := Lib.hid hlag
            clear hlag hki
            go_wp2
            go_roundg h
            case measure => omega
            case rel => exact ⟨k + 1, by omega, by go_num, by rw [HLG.out]; exact ⟨U, cu, rfl, HCU.out, HU.out⟩, HY.out⟩
          · have hne : ((k : Int) != (i : Int)) = true := by simp; omega
            have hlag : lag l i (k + 1) = Pol.trim (Pol.mulP (lag l i k) [Gf.mul (px l k) (dd l i k), dd l i k]) := by rw [lag, if_neg hki]
            have HLG := Lib.hid hlag
            obtain ⟨b2, o2, e2, hcx, _⟩ := (HA.out.ext (HX.out.trans HY.out)).2 i (by rw [HN.out]; omega)
            injection e2 with e2
            injection e2 with e3 e4
            subst e3
            subst e4
            obtain ⟨b2, o2, e2, hck, _⟩ := (HA.out.ext (HX.out.trans HY.out)).2 k (by rw [HN.out]; omega)
            injection e2 with e2
            injection e2 with e3 e4
            subst e3
            subst e4
            have hxor := u8_xor_nat (px l i) (px l k) (HA.out.1 i).1 (HA.out.1 k).1
            obtain ⟨z, hz⟩ : ∃ z, px l i ^^^ px l k = z := ⟨_, rfl⟩
            have hz1 : z < 256 := by rw [← hz]; exact Gf.xor_lt _ _ (HA.out.1 i).1 (HA.out.1 k).1
            have hz0 : z ≠ 0 := by rw [← hz]; exact fun e => HD.out.ne (by omega) (by omega) (fun h => hki h.symm) (Gf.xor_zero_iff _ _ e)
            have hdd : dd l i k = Gf.quo 1 z := by unfold dd; rw [hz]
            rw [hz] at hxor
            have HZ := Lib.hid hdd
            clear hlag hki hz hdd
            go_wp2
            go_quiet (first | (go_at_call 44; exact quiet_same (ref_inv z hz1 hz0 _)))
            have hlu : (lag l i k).length ≤ 524288 := by
              have h1 := Pol.lag_len l i k
              split at h1 <;> omega
            have hpk := (HA.out.1 k).1
            have hq1 := Gf.quo_lt 1 z
            have HLU := Lib.hid hlu
            clear hlu hcx hxor
            go_wp2_with fail
            refine (ref_mul (px l k) (Gf.quo 1 z) hpk hq1 _).mono ?_
            rintro e w2 ⟨rfl, rfl⟩
            go_wp2_with fail
            refine (ref_pmul (lag l i k) [Gf.mul (px l k) (Gf.quo 1 z), Gf.quo 1 z] U (some ⟨wr.heap.size, 0, none⟩) cu 2 _ ((HU.out.drewN nq).ext ((Ext.refl _).alloc _)) (rd_two (wr.drewN nq) _ _ (Gf.mul_lt _ _) hq1) HLU.out (by simp)).mono ?_
            rintro e w2 ⟨B, c, rfl, hcB, hrB, hxB⟩
            have HB := Lib.hid hrB
            have HCB := Lib.hid hcB
            have HXB := Lib.hid hxB
            clear hrB hcB hxB
            go_wp2
            go_roundg h
            case measure => omega
            case rel => exact ⟨k + 1, by omega, by go_num, by rw [HLG.out, HZ.out]; exact ⟨B, c, rfl, HCB.out, HB.out⟩, ((HY.out.drewN nq).alloc _).trans HXB.out⟩
theorem ref_through (l : List (Nat × Nat)) (A : Option Addr) (ca : Nat) (w : World) (ha : PRd w A l) (hl : l.length ≤ 65536) (hd : Apart l l.length) :
    Calls Try.prog 31 #[.slice A l.length ca] w (Gives (thr l l.length) w) := (ref_through_m l A ca w ha hl hd).mono fun _ _ h => h.gives
end Go.Proofs.Ytjibelmncbfbjaa

/-
  What append does with slices of points of a call's own, in terms of the lists that they read as. Conditions: the lengths add up to no more than 2^40.
-/
namespace Go.Proofs.Ytjibelmncbfbjaa
open Go.RowKit
open Pol (px py)

theorem pt_info : (Try.prog.info? 62).map (fun i => (i.zero, i.size, i.bytes)) = some (some (.agg #[.int .u8 0, .int .u8 0]), 2, 2) := by kernel_rfl
theorem pv_len (l : List (Nat × Nat)) : (pv l).length = l.length * 2 := by
  induction l with
  | nil => rfl
  | cons p l ih =>
    have e : pv (p :: l) = Value.int .u8 ((p.1 : Nat) : Int) :: Value.int .u8 ((p.2 : Nat) : Int) :: pv l := rfl
    rw [e]
    simp only [List.length_cons, ih]
    omega
theorem pv_append (l m : List (Nat × Nat)) : pv (l ++ m) = pv l ++ pv m := by simp [pv]
theorem pv_one (l : List (Nat × Nat)) : ∀ u ∈ pv l, u.oneCell' = true := by
  intro u hu
  obtain ⟨p, _, hp⟩ := List.mem_flatMap.1 hu
  simp at hp
  rcases hp with rfl | rfl <;> rfl
/-- A slice of the call's own, of the points l. -/
def PMine (w : World) (base : Nat) (v : Value) (l : List (Nat × Nat)) : Prop := w.ownsRow base 62 2 v l.length (pv l)
theorem PMine.nil (w : World) (base : Nat) : PMine w base (.slice none 0 0) [] := World.ownsRow_nil w base _ _
theorem PMine.slice {w : World} {base : Nat} {v : Value} {l : List (Nat × Nat)} (h : PMine w base v l) (hs : Pol.PSm l) : ∃ B c, v = .slice B l.length c ∧ l.length ≤ c ∧ PRd w B l := by
  rcases h.2 with ⟨rfl, hn⟩ | ⟨g, cap, cur, rfl, _, hg, hnc, _, _, htake⟩
  · have : l = [] := List.eq_nil_of_length_eq_zero hn
    subst this
    exact ⟨none, 0, rfl, Nat.le_refl _, PRd.nil _ _⟩
  · have hat : ∀ j, j < l.length * 2 → w.cell? ⟨g, 0 + j, none⟩ = (pv l)[j]? := fun j hj => by
      rw [Nat.zero_add, cell_of_row w g j cur _ _ hg, ← htake, List.getElem?_take, if_pos hj]
      simp
    refine ⟨_, cap, rfl, hnc, hs, fun i hi => ⟨g, 0, rfl, ?_, ?_⟩⟩
    · rw [hat _ (by omega), (pv_at l i hi).1]
    · rw [Nat.add_assoc, hat _ (by omega), (pv_at l i hi).2]
theorem PMine.kept {w w' : World} {base : Nat} {v : Value} {l : List (Nat × Nat)} (h : PMine w base v l) (hx : Ext w w') : PMine w' base v l :=
  World.ownsRow.kept h (row := none) ⟨hx.below.os, hx.below.tape, hx.below.output, hx.below.size, fun k hk _ => hx.below.block k hk⟩ (by
    cases hb : v.ownBlock with
    | none => exact .inl rfl
    | some k => exact .inr (by simp))

set_option maxRecDepth 100000 in
theorem run_append_prd (w : World) (base : Nat) (ty : TypeId) (v : Value) (l m : List (Nat × Nat)) (hown : PMine w base v l) (A : Option Addr) (c : Nat) (hr : PRd w A m)
    (hlen : l.length + m.length ≤ 1099511627776) (hbase : base ≤ w.heap.size) :
    ∃ v' w', (Builtin.append_ #[50, 50] ty #[v, .slice A m.length c]).run Try.prog w = .ok v' w' ∧ PMine w' base v' (l ++ m) ∧ w.grownBy w' v.ownBlock ∧ (v'.ownBlock = v.ownBlock ∨ v'.ownBlock = some w.heap.size) := by
  obtain ⟨i0, hi, hz0, hz1, hz2⟩ := info_parts pt_info
  cases A with
  | none =>
    have hm : m = [] := by
      rcases Nat.eq_zero_or_pos m.length with h | h
      · exact List.eq_nil_of_length_eq_zero h
      · obtain ⟨_, _, e, _⟩ := hr.2 0 h; cases e
    subst hm
    refine ⟨v, w, ?_, by simpa using hown, ⟨rfl, rfl, rfl, Nat.le_refl _, fun _ _ _ => rfl⟩, .inl rfl⟩
    rcases hown.2 with ⟨rfl, _⟩ | ⟨g, cap, cur, rfl, _, _, hnc, _⟩
    · simp [Builtin.append_, run_underlying Try.underlying50, sizeOf, typeInfo, hi, Builtin.lenOf, Builtin.firstCells]
    · simp [Builtin.append_, run_underlying Try.underlying50, sizeOf, typeInfo, hi, Builtin.lenOf, Builtin.firstCells, hnc, storeCells]
  | some a =>
    have hcells : ∀ j u, (pv m)[j]? = some u → w.cell? (a.add j) = some u := by
      intro j u hu
      have hj : j < m.length * 2 := by
        have := (List.getElem?_eq_some_iff.1 hu).1
        rwa [pv_len] at this
      obtain ⟨b, o, e, h1, h2⟩ := hr.2 (j / 2) (by omega)
      injection e with e
      subst e
      have hp := pv_at m (j / 2) (by omega)
      rw [addr_add]
      rcases Nat.mod_two_eq_zero_or_one j with hj2 | hj2
      · have ej : j / 2 * 2 = j := by omega
        rw [ej] at h1 hp
        rw [h1, ← hp.1, hu]
      · have ej : j / 2 * 2 + 1 = j := by omega
        rw [Nat.add_assoc, ej] at h2
        rw [ej] at hp
        rw [h2, ← hp.2, hu]
    obtain ⟨v', w', h1, h2, h3, _, h5⟩ := run_append_own_at (P := Try.prog) w base 50 ty 62 i0 (.agg #[.int .u8 0, .int .u8 0]) 2 2 Try.underlying50 hi hz0 hz1 hz2 rfl (by omega) v l.length (pv l) hown a m.length c (pv m) (pv_len m) hcells (pv_one m)
      (by unfold maxLen; omega) (by omega) hbase
    exact ⟨v', w', h1, by unfold PMine; rw [List.length_append, pv_append]; exact h2, h3, h5⟩

/-- At the operation, for the walk. -/
theorem wpList_append_prd {ops : Array Oper} {rest : List Oper} {o : Oper} {a : Act} {w : World} {Q : Exit → Act → World → Prop} (hgd : o.guard = none) (s x : Operand)
    (ho : o.op = .call { callee := .builtin .append, args := #[s, x], argTypes := #[50, 50] })
    (base : Nat) (v : Value) (l m : List (Nat × Nat)) (hs : a.eval s = v) (hown : PMine w base v l) (A : Option Addr) (n c : Nat) (hx : a.eval x = .slice A n c) (hn : m.length = n) (hr : PRd w A m)
    (hlen : l.length + m.length ≤ 1099511627776) (hbase : base ≤ w.heap.size)
    (h : ∀ v' w', PMine w' base v' (l ++ m) → w.grownBy w' v.ownBlock → (v'.ownBlock = v.ownBlock ∨ v'.ownBlock = some w.heap.size) → wpList Try.prog ops Q rest (a.put o.dst v') w') :
    wpList Try.prog ops Q (o :: rest) a w := by
  subst hn
  refine wpList_plain hgd fun K hK => ?_
  obtain ⟨v', w', hrun, h2, h3, h4⟩ := run_append_prd w base o.type v l m hown A c hr hlen hbase
  unfold Oper.wp execOp
  simp only [ho, resolve, invoke, builtin, Sem.run_bind, Sem.run_pure, Result.andThen_ok, List.map_toArray, List.map_cons, List.map_nil, hs, hx, hrun]
  exact hK _ _ (h v' w' h2 h3 h4)
/-- In a region that draws its order. -/
theorem step_append_prd {ops : Array Oper} {o : Oper} {a : Act} {w : World} {K : Act → World → Prop} {Q : Exit → Act → World → Prop} {E : Prop} (hgd : o.guard = none) (s x : Operand)
    (ho : o.op = .call { callee := .builtin .append, args := #[s, x], argTypes := #[50, 50] })
    (base : Nat) (v : Value) (l m : List (Nat × Nat)) (hs : a.eval s = v) (hown : PMine w base v l) (A : Option Addr) (n c : Nat) (hx : a.eval x = .slice A n c) (hn : m.length = n) (hr : PRd w A m)
    (hlen : l.length + m.length ≤ 1099511627776) (hbase : base ≤ w.heap.size)
    (h : ∀ v' w', PMine w' base v' (l ++ m) → w.grownBy w' v.ownBlock → (v'.ownBlock = v.ownBlock ∨ v'.ownBlock = some w.heap.size) → K (a.put o.dst v') w') :
    if Region.wanted o (yielded ops a.tmps) = true then Oper.wp Try.prog o a w K Q else E := by
  subst hn
  rw [if_pos (by simp [Region.wanted, hgd])]
  obtain ⟨v', w', hrun, h2, h3, h4⟩ := run_append_prd w base o.type v l m hown A c hr hlen hbase
  unfold Oper.wp execOp
  simp only [ho, resolve, invoke, builtin, Sem.run_bind, Sem.run_pure, Result.andThen_ok, List.map_toArray, List.map_cons, List.map_nil, hs, hx, hrun]
  exact h v' w' h2 h3 h4
/-- What an append wrote is the call's own. -/
theorem PMine.block {w : World} {base : Nat} {v : Value} {l : List (Nat × Nat)} (h : PMine w base v l) : ∀ k, v.ownBlock = some k → base ≤ k := fun k hk => (World.ownsRow.lt h k hk).1
/-- Two slices do not share a block. -/
def Sep (v1 v2 : Value) : Prop := ∀ k, v1.ownBlock = some k → v2.ownBlock ≠ some k
theorem Sep.symm {v1 v2 : Value} (h : Sep v1 v2) : Sep v2 v1 := fun k h2 h1 => h k h1 h2
theorem Sep.nil (v : Value) : Sep (.slice none 0 0) v := fun k h => by simp [Value.ownBlock] at h
theorem PMine.other {w w' : World} {base : Nat} {v1 v2 : Value} {l : List (Nat × Nat)} (h : PMine w base v2 l) (hg : w.grownBy w' v1.ownBlock) (hs : Sep v1 v2) : PMine w' base v2 l :=
  World.ownsRow.kept h hg (by
    cases hb : v2.ownBlock with
    | none => exact .inl rfl
    | some k => exact .inr (fun e => hs k e.symm hb))
theorem Sep.step {w : World} {base : Nat} {v1 v1' v2 : Value} {l : List (Nat × Nat)} (hs : Sep v1 v2) (hat : v1'.ownBlock = v1.ownBlock ∨ v1'.ownBlock = some w.heap.size) (h : PMine w base v2 l) : Sep v1' v2 := fun k h1 h2 => by
  rcases hat with e | e
  · exact hs k (e ▸ h1) h2
  · have := (World.ownsRow.lt h k h2).2
    rw [e] at h1
    injection h1 with h1
    omega
end Go.Proofs.Ytjibelmncbfbjaa

/-
  A region that draws its order, whose first operations leave every world of a class in that class and yield the same values in all of them, and whose last operations follow in a forced order: one walk of the text's order serves every order. Conditions: none; of no program in particular.
-/
namespace Go.Proofs.Ytjibelmncbfbjaa
open Go

section
variable {P : Program} {ops : Array Oper} {md : Region.Mode} {C : World → Prop}

/-- f operations below n come up in whatever order, each quiet in the class; then L. -/
def ahead (P : Program) (md : Region.Mode) (ops : Array Oper) (C : World → Prop) (n : Nat) (L : Array Bool → Act → Prop) : Nat → Array Bool → Act → Prop
  | 0, listed, a => L listed a
  | f + 1, listed, a => Region.ready md ops listed ≠ [] ∧ ∀ i, i ∈ Region.ready md ops listed → i < n ∧ qOp P ops C i (ahead P md ops C n L f (listed.setIfInBounds i true)) a

theorem wpAny_of_ahead {n g : Nat} {L : Array Bool → Act → Prop} {Q' : Exit → Act → World → Prop} (hL : ∀ listed a w, C w → L listed a → wpAny P md ops Q' g listed a w) (f : Nat) :
    ∀ (listed : Array Bool) (a : Act) (w : World), C w → ahead P md ops C n L f listed a → wpAny P md ops Q' (f + g) listed a w := by
  induction f with
  | zero => intro listed a w hw h; rw [Nat.zero_add]; exact hL _ _ _ hw h
  | succ f ih =>
    intro listed a w hw h
    rw [Nat.succ_add]
    exact ⟨fun h0 => absurd h0 h.1, fun i hi => wpOp_of_qOp hw (fun a' w' hw' h' => ih _ a' w' hw' h') (h.2 i hi).2⟩

/-- What may come up now may be taken first. -/
theorem ahead_first {n i : Nat} {oi : Oper} {v : Value} {L : Array Bool → Act → Prop} (hi : ops[i]? = some oi) (hsel : ∀ (j : Nat) (o : Oper) cs b, ops[j]? = some o → o.op ≠ .select cs b)
    (hs : Region.sinkB md ops n = true) (hc : Region.chainB md ops n = true) (hn : n < ops.size) (hin : i < n)
    (hdone : ∀ listed a, L listed a → ∀ j ∈ Region.ready md ops listed, n ≤ j) (f : Nat) :
    ∀ (listed : Array Bool) (a : Act), HeadInv md ops n listed →
      (∀ j oj, ops[j]? = some oj → j ≠ i → listed.getD j true = false → (∀ e ∈ oj.after, Region.binds md e = true → e.on ≠ i) → oi.apart ops oj = true) →
      i ∈ Region.ready md ops listed → YieldsIn P ops C oi v a →
      ahead P md ops C n L f (listed.setIfInBounds i true) (a.put oi.dst v) → ahead P md ops C n L (f + 1) listed a := by
  induction f with
  | zero =>
    intro listed a inv _ hr hy H
    refine ⟨List.ne_nil_of_mem hr, fun j hj => ?_⟩
    have hjn : j < n := Nat.lt_of_not_le fun h => tail_waits hs hc hn inv _ i rfl hin (mem_ready.1 hr).1 j h hj
    by_cases hji : j = i
    · subst hji; exact ⟨hjn, hy.qOp hi H⟩
    · exact absurd (hdone _ _ H j (ready_mono hj hji)) (by omega)
  | succ f ih =>
    intro listed a inv hfree hr hy H
    have hun := (mem_ready.1 hr).1
    refine ⟨List.ne_nil_of_mem hr, fun j hj => ?_⟩
    have hjn : j < n := Nat.lt_of_not_le fun h => tail_waits hs hc hn inv _ i rfl hin hun j h hj
    by_cases hji : j = i
    · subst hji; exact ⟨hjn, hy.qOp hi H⟩
    obtain ⟨hjun, oj, hoj, hall⟩ := mem_ready.1 hj
    have hap := hfree j oj hoj hji hjun fun e he hb heq => by
      have h1 := hall e he hb
      rw [heq, getD_both hun] at h1
      cases h1
    refine ⟨hjn, qOp_mono (fun a' h3 => ih (listed.setIfInBounds j true) a' (inv.set hj hjn) ?_ (ready_mono hr (Ne.symm hji)) h3.1 ?_)
      (qOp_put hoj hap (fun cs b => hsel i oi cs b hi) (fun cs b => hsel j oj cs b hoj) hy (H.2 j (ready_mono hj hji)).2)⟩
    · intro k ok hk hki hu hno
      refine hfree k ok hk hki ?_ hno
      by_cases hjk : j = k
      · subst hjk; exact hjun
      · rwa [getD_set_ne true hjk] at hu
    · rw [Array.setIfInBounds_comm _ _ hji]; exact h3.2

theorem ahead_lex {n g : Nat} {Lq : Act → Prop} (hsel : Region.noSelect ops = true) (hs : Region.sinkB md ops n = true) (hc : Region.chainB md ops n = true) (hn : n < ops.size) (l : List Oper) :
    ∀ (k : Nat) (listed : Array Bool) (a : Act), (∀ j, j < l.length → l[j]? = ops[k + j]?) → k + l.length = n → HeadInv md ops n listed →
    Region.lexHead md ops g l.length k listed = true → wpQuiet P ops C Lq l a →
    ahead P md ops C n (fun listed' a' => Region.seqB md ops g n listed' = true ∧ Lq a') l.length listed a := by
  induction l with
  | nil =>
    intro k listed a _ hk _ hB h
    obtain rfl : k = n := by simpa using hk
    exact ⟨by simpa [Region.lexHead] using hB, h⟩
  | cons o l ih =>
    intro k listed a hl hk inv hB h
    have h0 : ops[k]? = some o := by simpa using (hl 0 (by simp)).symm
    simp only [List.length_cons, Region.lexHead, Bool.and_eq_true] at hB hk
    have hr : k ∈ Region.ready md ops listed := by simpa using hB.1.1
    obtain ⟨v, hy, hK⟩ := yieldsIn_of_qOp (C := C) (K := wpQuiet P ops C Lq l) h0 (by unfold qOp; simp only [h0]; exact h)
    refine ahead_first h0 (Region.noSelect_spec hsel) hs hc hn (by omega) (fun _ _ hL => seqB_ready hL.1) l.length listed a inv (Region.free_spec h0 hB.1.2) hr hy ?_
    exact ih (k + 1) _ _ (fun j hj => by have := hl (j + 1) (by simp; omega); simpa [Nat.add_assoc, Nat.add_comm 1 j] using this) (by omega) (inv.set hr (by omega)) hB.2 hK

theorem any_quiet_tail {Q : Exit → Act → World → Prop} {a : Act} {w : World} {l : List Oper} (n : Nat) (C : World → Prop) (hB : Region.lexTailB .any l.toArray n = true) (hC : C w.drew)
    (h : wpQuiet P l.toArray C (fun a' => ∀ w', C w' → wpList P l.toArray Q (l.drop n) a' w') (l.take n) a) : wpAny P .any l.toArray Q l.toArray.size (Array.replicate l.toArray.size false) a w.drew := by
  simp only [Region.lexTailB, Bool.and_eq_true, decide_eq_true_eq] at hB
  obtain ⟨⟨⟨⟨hsel, hn⟩, hs⟩, hc⟩, hlex⟩ := hB
  have hn' : n < l.length := by simpa using hn
  have htl : (l.take n).length = n := by rw [List.length_take]; omega
  have hdl : (l.drop n).length = l.toArray.size - n := by simp
  have inv0 : HeadInv .any l.toArray n (Array.replicate l.toArray.size false) :=
    ⟨by simp, fun j oj _ hl => (by rw [getD_replicate_false] at hl; cases hl), fun t _ ht => getD_in (by simpa using ht) (getD_replicate_false _ _)⟩
  have H := ahead_lex (md := .any) (g := l.toArray.size - n) (C := C) hsel hs hc hn (l.take n) 0 _ a (fun j hj => by
    have hj' : j < n := by rwa [htl] at hj
    simp [hj']) (by rw [htl]; exact Nat.zero_add n) inv0 (by rw [htl]; exact hlex) h
  have key := wpAny_of_ahead (C := C) (Q' := Q) (g := l.toArray.size - n) (fun listed a' w' hw' hL => by
    have := wpAny_of_seq (md := .any) (Q' := Q) (l.drop n) n listed a' w' (fun j => by simp [List.getElem?_drop]) (by rw [hdl]; exact hL.1) (hL.2 w' hw')
    rwa [hdl] at this) _ _ _ _ hC H
  rw [htl, show n + (l.toArray.size - n) = l.toArray.size by omega] at key
  exact key
theorem wp_region_quiet_tail {id : Nat} {Q : Exit → Act → World → Prop} {a : Act} {w : World} {l : List Oper} (n : Nat) (C : World → Prop) (hm : P.follows .mixedOrders = true) (hB : Region.lexTailB .any l.toArray n = true) (hC : C w.drew)
    (h : wpQuiet P l.toArray C (fun a' => ∀ w', C w' → wpList P l.toArray Q (l.drop n) a' w') (l.take n) a) : (Code.region id l.toArray true).wp P Q a w :=
  wp_region_any hm (any_quiet_tail n C hB hC h)
end
end Go.Proofs.Ytjibelmncbfbjaa

/-
  What the document's own Remap of layer 6 does. Conditions: no more than 2^12 bytes and coins, no more than 2^10 participants.
-/
namespace Go.Proofs.Ytjibelmncbfbjaa
open Go.RowKit
open Pol (co Sm ev px py Apart)

/-! ### The mathematics of the loops -/
def rmF (s o c T : List Nat) (d i k j : Nat) : Nat := if j / d < i ∨ (j / d = i ∧ j % d + 1 < k) then rmv s o c T d j else co c j
theorem rmF_start (s o c T : List Nat) (d j : Nat) : co c j = rmF s o c T d 0 1 j := by
  unfold rmF
  rw [if_neg (by
    rintro (h | ⟨_, h⟩)
    · exact absurd h (Nat.not_lt_zero _)
    · exact absurd h (Nat.not_lt.2 (Nat.le_add_left 1 _)))]
theorem rmF_lt {s o c T : List Nat} (hc : Sm c) (d i k j : Nat) : rmF s o c T d i k j < 256 := by
  unfold rmF
  split
  · exact rmv_lt hc d j
  · exact hc j
theorem rmF_at (s o c T : List Nat) (d i k : Nat) (hk : 1 ≤ k) (hd : k ≤ d) : rmF s o c T d i k (i * d + (k - 1)) = co c (i * d + (k - 1)) := by
  unfold rmF
  rw [row_div (by omega), row_mod (by omega), if_neg (by omega)]
theorem rmF_step (s o c T : List Nat) (d i k a j : Nat) (hk : 1 ≤ k) (hd : k ≤ d) (ha : i * d + (k - 1) = a) : upd (rmF s o c T d i k) a (co c a ^^^ Gf.mul (co T k) (co s i ^^^ co o i)) j = rmF s o c T d i (k + 1) j := by
  subst ha
  unfold upd
  by_cases e : j = i * d + (k - 1)
  · rw [if_pos e, e]
    unfold rmF
    rw [row_div (by omega), row_mod (by omega), if_pos (.inr ⟨rfl, by omega⟩)]
    unfold rmv
    rw [row_div (by omega), row_mod (by omega), show k - 1 + 1 = k from by omega]
  · rw [if_neg e]
    unfold rmF
    by_cases h : j / d < i ∨ (j / d = i ∧ j % d + 1 < k)
    · rw [if_pos h, if_pos (by rcases h with h | h; exact .inl h; exact .inr ⟨h.1, by omega⟩)]
    · rw [if_neg h, if_neg]
      rintro (h1 | ⟨h1, h2⟩)
      · exact h (.inl h1)
      · by_cases hq : j % d + 1 < k
        · exact h (.inr ⟨h1, hq⟩)
        · refine e ?_
          have := Nat.div_add_mod j d
          rw [h1, Nat.mul_comm] at this
          omega
theorem rmF_next (s o c T : List Nat) (d i j : Nat) : rmF s o c T d i T.length j = rmF s o c T d (i + 1) 1 j := by
  unfold rmF
  by_cases h : j / d < i ∨ (j / d = i ∧ j % d + 1 < T.length)
  · rw [if_pos h, if_pos (by rcases h with h | h; exact .inl (by omega); exact .inl (by omega))]
  · rw [if_neg h]
    by_cases h1 : j / d = i
    · rw [if_pos (.inl (by omega))]
      unfold rmv
      rw [Pol.co_out T (j % d + 1) (by omega), Gf.zero_mul, Nat.xor_zero]
    · rw [if_neg (by omega)]
theorem rmF_small (s o c T : List Nat) (d i j : Nat) (h : T.length ≤ 1) : rmF s o c T d i 1 j = rmF s o c T d (i + 1) 1 j := by
  rw [← rmF_next]
  unfold rmF
  by_cases h1 : j / d < i
  · rw [if_pos (.inl h1), if_pos (.inl h1)]
  · rw [if_neg (by omega), if_neg (by omega)]
theorem rmF_end (s o c T : List Nat) (d n j : Nat) (hj : j < n * d) : rmF s o c T d n 1 j = rmv s o c T d j := by
  unfold rmF
  rw [if_pos (.inl (Nat.div_lt_of_lt_mul (by rw [Nat.mul_comm]; exact hj)))]
/-- The points so far. -/
def rptsN (who : List Int) (k : Nat) : List (Nat × Nat) := (0, 1) :: (who.take k).map fun x => (x.toNat + 1, 0)
theorem rptsN_len (who : List Int) (k : Nat) (h : k ≤ who.length) : (rptsN who k).length = k + 1 := by simp [rptsN]; omega
theorem rptsN_all (who : List Int) : rptsN who who.length = rpts who := by unfold rptsN rpts; rw [List.take_length]
theorem rptsN_succ (who : List Int) (k : Nat) (h : k < who.length) : rptsN who k ++ [((wn who k).toNat + 1, 0)] = rptsN who (k + 1) := by
  unfold rptsN wn
  rw [List.take_add_one, List.map_append, List.getElem?_eq_getElem h]
  rfl
theorem psm_append {a b : List (Nat × Nat)} (ha : Pol.PSm a) (hb : Pol.PSm b) : Pol.PSm (a ++ b) := fun i => by
  unfold px py
  by_cases h : i < a.length
  · rw [List.getElem?_append_left h]; exact ha i
  · rw [List.getElem?_append_right (by omega)]; exact hb _
theorem psm_one {x y : Nat} (hx : x < 256) (hy : y < 256) : Pol.PSm [(x, y)] := fun i => by
  match i with
  | 0 => exact ⟨hx, hy⟩
  | n + 1 => simp [px, py]
theorem one_pmine (w : World) (x y : Nat) : PMine (w.alloc (.cells #[.int .u8 (x : Int), .int .u8 (y : Int)] 62)) w.heap.size (.slice (some ⟨w.heap.size, 0, none⟩) 1 1) [(x, y)] :=
  World.ownsRow_lit w #[.int .u8 (x : Int), .int .u8 (y : Int)] 1 (Nat.le_refl _) (by unfold maxLen; omega) rfl
theorem one_prd (w : World) (x y : Nat) (hx : x < 256) (hy : y < 256) : PRd (w.alloc (.cells #[.int .u8 (x : Int), .int .u8 (y : Int)] 62)) (some ⟨w.heap.size, 0, none⟩) [(x, y)] := prd_lit w [(x, y)] (psm_one hx hy)
/-- Numbers that fit together. -/
def RemNum (ns no nc : Nat) (k : Int) (nw : Nat) : Prop := 1 ≤ k ∧ k ≤ 200 ∧ ns = no ∧ ns ≤ 4096 ∧ (nc : Int) = cnum ns k ∧ (nw : Int) < k

set_option maxHeartbeats 3200000 in
theorem ref_remap_num (ns no nc nw : Nat) (k : Int) (A B C D : Option Addr) (ca cb cc cd : Nat) (w : World) (h : ¬ RemNum ns no nc k nw) :
    Calls Try.prog 11 #[.slice A ns ca, .slice B no cb, .slice C nc cc, .int .i64 k, .slice D nw cd] w (GivesE [] 1 w) := by
  unfold RemNum at h
  have HC := Lib.hid (ref_coins (ns : Int) k)
  by_cases h1 : k < 1
  · have d1 : decide (k < 1) = true := decide_eq_true h1
    clear h
    go_enter Try.func11, Try.ntmps11
    go_wp2
    go_ret2
    exact ⟨_, rfl, sl_none _, Ext.refl w⟩
  have d1 : decide (k < 1) = false := decide_eq_false h1
  by_cases h2 : 200 < k
  · have d2 : decide (200 < k) = true := decide_eq_true h2
    clear h
    go_enter Try.func11, Try.ntmps11
    go_wp2
    go_ret2
    exact ⟨_, rfl, sl_none _, Ext.refl w⟩
  have d2 : decide (200 < k) = false := decide_eq_false h2
  by_cases h3 : ns = no
  · have t3 : ((ns : Int) != (no : Int)) = false := by rw [h3]; simp
    by_cases h4 : 4096 < ns
    · have d4 : decide (4096 < (ns : Int)) = true := decide_eq_true (by omega)
      clear h h3
      go_enter Try.func11, Try.ntmps11
      go_wp2
      go_ret2
      exact ⟨_, rfl, sl_none _, Ext.refl w⟩
    have d4 : decide (4096 < (ns : Int)) = false := decide_eq_false (by omega)
    obtain ⟨q, hq⟩ : ∃ q, cnum (ns : Int) k = q := ⟨_, rfl⟩
    rw [hq] at HC h
    by_cases h5 : (nc : Int) = q
    · have t5 : ((nc : Int) != q) = false := by rw [h5]; simp
      have d6 : decide (k ≤ (nw : Int)) = true := decide_eq_true (by omega)
      clear h h3 h5 hq
      go_enter Try.func11, Try.ntmps11
      go_wp2_with fail
      refine (HC.out w).mono ?_
      rintro e w1 ⟨rfl, q1, rfl⟩
      go_wp2
      go_ret2
      exact ⟨_, rfl, sl_none _, (Ext.refl w).drewN q1⟩
    · have t5 : ((nc : Int) != q) = true := by simp; exact h5
      clear h h3 h5 hq
      go_enter Try.func11, Try.ntmps11
      go_wp2_with fail
      refine (HC.out w).mono ?_
      rintro e w1 ⟨rfl, q1, rfl⟩
      go_wp2
      go_ret2
      exact ⟨_, rfl, sl_none _, (Ext.refl w).drewN q1⟩
  · have t3 : ((ns : Int) != (no : Int)) = true := by simp; omega
    clear h h3
    go_enter Try.func11, Try.ntmps11
    go_wp2
    go_ret2
    exact ⟨_, rfl, sl_none _, Ext.refl w⟩

/-! ### The participants -/
theorem rptsN_sm {who : List Int} (n : Nat) (h : ∀ i, i < n → 0 ≤ wn who i ∧ wn who i ≤ 199) (hn : n ≤ who.length) : ∀ k, k ≤ n → Pol.PSm (rptsN who k)
  | 0, _ => psm_one (by omega) (by omega)
  | k + 1, hk => by
    rw [← rptsN_succ who k (by omega)]
    exact psm_append (rptsN_sm n h hn k (by omega)) (psm_one (by have := h k (by omega); omega) (by omega))

set_option maxHeartbeats 3200000 in
set_option maxRecDepth 100000 in
/-- One that is no participant, or one that is there twice. -/
theorem ref_remap_who (ns no nc : Nat) (who : List Int) (k : Int) (A B C D : Option Addr) (ca cb cc cd : Nat) (w : World) (hd : JRd w D who) (hI : ∀ i, In64 (wn who i)) (h : RemNum ns no nc k who.length) (hno : ¬ WhoOk who) :
    Calls Try.prog 11 #[.slice A ns ca, .slice B no cb, .slice C nc cc, .int .i64 k, .slice D who.length cd] w (GivesE [] 1 w) := by
  obtain ⟨h1, h2, h3, h4, h5, h6⟩ := h
  have HC := Lib.hid (ref_coins (ns : Int) k)
  have d1 : decide (k < 1) = false := decide_eq_false (by omega)
  have d2 : decide (200 < k) = false := decide_eq_false (by omega)
  have t3 : ((ns : Int) != (no : Int)) = false := by rw [h3]; simp
  have d4 : decide (4096 < (ns : Int)) = false := decide_eq_false (by omega)
  have t5 : ((nc : Int) != cnum (ns : Int) k) = false := by rw [h5]; simp
  have d6 : decide (k ≤ (who.length : Int)) = false := decide_eq_false (by omega)
  generalize cnum (ns : Int) k = q at *
  have HTW := Lib.hid (fun W X cX (hX : PRd W X (rpts who)) (hall : ∀ i, i < who.length → 0 ≤ wn who i ∧ wn who i ≤ 199) => show Calls Try.prog 30 #[.slice X (who.length + 1) cX] W (Hands (.bool true) W) from by
    have h := ref_twice_yes (rpts who) X cX W hX (by rw [rpts_len]; omega) (fun ha => hno (WhoOk.of_apart hall ha))
    rwa [rpts_len] at h)
  have HALLP := Lib.hid (rptsN_all who)
  have HSUC := Lib.hid (rptsN_succ who)
  have HPL := Lib.hid (rptsN_len who)
  have HPS := Lib.hid (fun n => rptsN_sm (who := who) n)
  have HD := Lib.hid hd
  have HI := Lib.hid hI
  have HNO := Lib.hid hno
  clear hd hI hno h3 h5
  generalize hn : who.length = nw at *
  have HN := Lib.hid hn
  clear hn
  go_enter Try.func11, Try.ntmps11
  go_wp2_with fail
  refine (HC.out w).mono ?_
  rintro e w1 ⟨rfl, q1, rfl⟩
  have HX1 := Lib.hid ((Ext.refl w).drewN q1)
  generalize w.drewN q1 = w1 at HX1 ⊢
  clear HC
  go_wp2
  go_loopg [12, 56] nw (fun gh s12 s56 wx => ∃ (i : Nat) (X : Option Addr) (cX : Nat), i + gh = nw ∧ s56 = .int .i64 (i : Int) ∧ s12 = .slice X (i + 1) cX ∧ PMine wx w1.heap.size (.slice X (i + 1) cX) (rptsN who i) ∧ Ext w1 wx ∧ ∀ j, j < i → 0 ≤ wn who j ∧ wn who j ≤ 199)
  case atStart => exact ⟨0, _, _, by omega, rfl, rfl, one_pmine w1 0 1, (Ext.refl w1).alloc _, fun j hj => by omega⟩
  case round =>
    obtain ⟨i, X, cX, hig, rfl, rfl, hm, hx, hall⟩ := hrel
    have HM := Lib.hid hm
    have HX := Lib.hid hx
    have HALL := Lib.hid hall
    clear hm hx hall
    cases gk with
    | zero =>
      obtain rfl : i = nw := by omega
      clear hig
      have hps := HPS.out i HALL.out (Nat.le_refl _) i (Nat.le_refl _)
      obtain ⟨X', cX', eX, _, hrd⟩ := HM.out.slice hps
      rw [HPL.out i (Nat.le_refl _)] at eX
      injection eX with eX1 eX2 eX3
      subst eX1; subst eX3
      have hrd' : PRd wr X (rpts who) := by rw [← HALLP.out]; exact hrd
      have HT := Lib.hid (HTW.out wr X cX hrd' HALL.out)
      clear hps hrd hrd' eX2
      go_wp2_with fail
      refine HT.out.mono ?_
      rintro e w2 ⟨rfl, q2, rfl⟩
      go_wp2
      go_ret2
      exact ⟨_, rfl, sl_none _, HX1.out.trans (HX.out.drewN q2)⟩
    | succ gh =>
      have hi : i < nw := by omega
      have hiI : (i : Int) < (nw : Int) := by omega
      obtain ⟨b1, o1, e1, hc1⟩ := (HD.out.ext (HX1.out.trans HX.out)) i (by rw [HN.out]; exact hi)
      subst e1
      obtain ⟨hx1, hx2⟩ := HI.out i
      obtain ⟨x, hxx⟩ : ∃ x, wn who i = x := ⟨_, rfl⟩
      rw [hxx] at hc1 hx1 hx2
      have HXX := Lib.hid hxx
      clear hxx
      by_cases hlo : x < 0
      · have t1 : decide (x < 0) = true := decide_eq_true hlo
        clear hlo
        go_wp2
        go_ret2
        exact ⟨_, rfl, sl_none _, HX1.out.trans HX.out⟩
      have t1 : decide (x < 0) = false := decide_eq_false hlo
      by_cases hhi : 199 < x
      · have t2 : decide (199 < x) = true := decide_eq_true hhi
        clear hhi hlo
        go_wp2
        go_ret2
        exact ⟨_, rfl, sl_none _, HX1.out.trans HX.out⟩
      have t2 : decide (199 < x) = false := decide_eq_false hhi
      obtain ⟨y, hy⟩ : ∃ y : Nat, x.toNat + 1 = y := ⟨_, rfl⟩
      have ey : IntKind.u8.wrap (x + 1) = (y : Int) := by rw [IntWalk.u8_in _ (by omega)]; omega
      have hy256 : y < 256 := by omega
      have HS1 := Lib.hid (show rptsN who i ++ [(y, 0)] = rptsN who (i + 1) from by rw [← HSUC.out i hi, HXX.out, hy])
      have HA1 := Lib.hid (show ∀ j, j < i + 1 → 0 ≤ wn who j ∧ wn who j ≤ 199 from fun j hj => by
        by_cases e : j = i
        · rw [e, HXX.out]; exact ⟨by omega, by omega⟩
        · exact HALL.out j (by omega))
      have HPL1 := Lib.hid (HPL.out i (by omega))
      have HPL2 := Lib.hid (HPL.out (i + 1) (by omega))
      have HSM1 := Lib.hid (HPS.out (i + 1) HA1.out (by omega) (i + 1) (Nat.le_refl _))
      clear hy
      go_wp2_with (at_builtin; refine wpList_append_prd rfl (.tmp 71) (.tmp 79) rfl w1.heap.size _ (rptsN who i) [(y, 0)] rfl (HM.out.kept ((Ext.refl _).alloc _)) (some ⟨wr.heap.size, 0, none⟩) 1 1 rfl rfl (one_prd wr y 0 hy256 (by omega)) (by rw [HPL1.out]; simp; omega) (by simp; have := HX.out.size; omega) ?_; intro v' w3 hown' hg' hat'; rw [HS1.out] at hown'; have hx3 := (HX.out.alloc (.cells #[.int .u8 (y : Int), .int .u8 0] 62)).more hg' (fun r e => HM.out.block r e); obtain ⟨Bv, cv, ev', hcv, _⟩ := hown'.slice HSM1.out; rw [HPL2.out] at ev' hcv; subst ev'; have HO := Lib.hid hown'; have HX3 := Lib.hid hx3; clear hown' hg' hat' hx3)
      go_roundg gh
      case measure => omega
      case rel => exact ⟨i + 1, Bv, cv, by omega, by go_num, rfl, HO.out, HX3.out, HA1.out⟩

set_option maxHeartbeats 6400000 in
set_option maxRecDepth 100000 in
theorem ref_remap (s o c : List Nat) (who : List Int) (d : Nat) (k : Int) (A B C D : Option Addr) (ca cb cc cd : Nat) (w : World) (hs : Rd w A s) (ho : Rd w B o) (hc : Rd w C c) (hd : JRd w D who) (h : RemapOk s o c k who) (hk : k = (d : Int) + 1) (hcl : c.length ≤ 1048576) :
    Calls Try.prog 11 #[.slice A s.length ca, .slice B o.length cb, .slice C c.length cc, .int .i64 k, .slice D who.length cd] w (GivesE (remap s o c d who) 0 w) := by
  obtain ⟨h1, h2, h3, h4, h5, h6, hw⟩ := h
  have hcd : c.length = s.length * d := by
    have hok : DealOk s c k 200 := ⟨h1, h2, by omega, h4, h5⟩
    exact hok.len hk
  have HC := Lib.hid (ref_coins (s.length : Int) k)
  have d1 : decide (k < 1) = false := decide_eq_false (by omega)
  have d2 : decide (200 < k) = false := decide_eq_false (by omega)
  have t3 : ((s.length : Int) != (o.length : Int)) = false := by rw [h3]; simp
  have d4 : decide (4096 < (s.length : Int)) = false := decide_eq_false (by omega)
  have t5 : ((c.length : Int) != cnum (s.length : Int) k) = false := by rw [h5]; simp
  have d6 : decide (k ≤ (who.length : Int)) = false := decide_eq_false (by omega)
  generalize cnum (s.length : Int) k = q at *
  have HTW := Lib.hid (fun W X cX (hX : PRd W X (rpts who)) => show Calls Try.prog 30 #[.slice X (who.length + 1) cX] W (Hands (.bool false) W) from by
    have h := ref_twice_no (rpts who) X cX W hX (by rw [rpts_len]; omega) hw.apart
    rwa [rpts_len] at h)
  have HTH := Lib.hid (fun W X cX (hX : PRd W X (rpts who)) => show Calls Try.prog 31 #[.slice X (who.length + 1) cX] W (Gives (trn who) W) from by
    have h := ref_through (rpts who) X cX W hX (by rw [rpts_len]; omega) hw.apart
    rw [rpts_len] at h
    unfold trn
    rw [rpts_len]
    exact h)
  have HALLP := Lib.hid (rptsN_all who)
  have HSUC := Lib.hid (rptsN_succ who)
  have HPL := Lib.hid (rptsN_len who)
  have HPS := Lib.hid (fun k (hk : k ≤ who.length) => rptsN_sm (who := who) who.length hw.some (Nat.le_refl _) k hk)
  have HW := Lib.hid hw.some
  have HD := Lib.hid hd
  have htl : (trn who).length ≤ d + 1 := by have := trn_len who; omega
  have hts := trn_sm hw.some
  have ht1 : 1 ≤ (trn who).length := by
    rcases Nat.eq_zero_or_pos (trn who).length with h | h
    · have h0 := trn_zero hw
      rw [List.eq_nil_of_length_eq_zero h, Pol.co_nil] at h0
      omega
    · exact h
  have HRM := Lib.hid (show remap s o c d who = tab (s.length * d) (rmv s o c (trn who) d) from rfl)
  generalize trn who = T at *
  have HS := Lib.hid hs
  have HOO := Lib.hid ho
  have HCC := Lib.hid hc
  have HTS := Lib.hid hts
  have HCD := Lib.hid hcd
  have e1 : IntKind.i64.wrap (k - 1) = (d : Int) := by rw [IntWalk.i64_in _ (by omega)]; omega
  have hd200 : d < 200 := by omega
  have HSO := Lib.hid h3
  clear hd hw h3 h5 hs ho hc hts hk
  generalize hn : who.length = nw at *
  have HN := Lib.hid hn
  clear hn
  generalize hns : s.length = ns at *
  have HNS := Lib.hid hns
  generalize hno : o.length = no at *
  have HNO := Lib.hid hno
  generalize hnc : c.length = nc at *
  have HNC := Lib.hid hnc
  clear hns hno hnc hcd
  go_enter Try.func11, Try.ntmps11
  go_wp2_with fail
  refine (HC.out w).mono ?_
  rintro e w1 ⟨rfl, q1, rfl⟩
  have HX1 := Lib.hid ((Ext.refl w).drewN q1)
  generalize w.drewN q1 = w1 at HX1 ⊢
  clear HC
  go_wp2
  go_loopg [12, 56] nw (fun gh s12 s56 wx => ∃ (i : Nat) (X : Option Addr) (cX : Nat), i + gh = nw ∧ s56 = .int .i64 (i : Int) ∧ s12 = .slice X (i + 1) cX ∧ PMine wx w1.heap.size (.slice X (i + 1) cX) (rptsN who i) ∧ Ext w1 wx)
  case atStart => exact ⟨0, _, _, by omega, rfl, rfl, one_pmine w1 0 1, (Ext.refl w1).alloc _⟩
  case round =>
    obtain ⟨i, X, cX, hig, rfl, rfl, hm, hx⟩ := hrel
    have HM := Lib.hid hm
    have HX := Lib.hid hx
    clear hm hx
    cases gk with
    | zero =>
      obtain rfl : i = nw := by omega
      clear hig
      obtain ⟨X', cX', eX, _, hrd⟩ := HM.out.slice (HPS.out i (Nat.le_refl _))
      rw [HPL.out i (Nat.le_refl _)] at eX
      injection eX with eX1 eX2 eX3
      subst eX1; subst eX3
      have hrd' : PRd wr X (rpts who) := by rw [← HALLP.out]; exact hrd
      have HT := Lib.hid (HTW.out wr X cX hrd')
      have HT2 := Lib.hid (fun q => HTH.out (wr.drewN q) X cX (hrd'.drewN q))
      clear hrd hrd' eX2
      go_wp2_with fail
      refine HT.out.mono ?_
      rintro e w2 ⟨rfl, q2, rfl⟩
      go_wp2_with fail
      refine (HT2.out q2).mono ?_
      rintro e w4 ⟨TB, tc, rfl, htc, htr, hx4⟩
      have HX4 := Lib.hid (HX1.out.trans (HX.out.trans (((Ext.refl _).drewN q2).trans hx4)))
      have HTR := Lib.hid htr
      obtain ⟨lt, hlt⟩ : ∃ lt, T.length = lt := ⟨_, rfl⟩
      rw [hlt] at htl htc ht1 ⊢
      have HLT := Lib.hid hlt
      clear htr hx4 HT HT2 hlt HTW HTH HPS HPL HSUC HALLP HM
      go_wp2_with (at_builtin; refine wpList_append_rd rfl (.tmp 86) (.tmp 87) rfl w4.heap.size _ [] c rfl (mine_empty w4) C nc cc rfl HNC.out ((HCC.out.ext HX4.out).ext ((Ext.refl _).alloc _)) (by rw [HNC.out]; simp; omega) (by simp) ?_; intro v5 w5 hown5 hg5 hat5; rw [List.nil_append] at hown5; have hx5 := ((Ext.refl w4).alloc (.cells #[] 5)).more hg5 (fun r e => ((mine_empty w4).block r e).1); obtain ⟨A5, c5, g5, ev5, hc5, hpos5, hcl5⟩ := hown5.cells; rw [HNC.out] at ev5 hc5 hpos5 hcl5; subst ev5; have HCL := Lib.hid hcl5; have HPOS := Lib.hid hpos5; have HX5 := Lib.hid hx5; clear hown5 hg5 hat5 hx5 hcl5 hpos5)
      go_loopg [91] ns (fun gh v91 wx => ∃ i : Nat, i + gh = ns ∧ v91 = .int .i64 (i : Int) ∧ Cells wx g5 nc (rmF s o c T d i 1) ∧ Ext w4 wx)
      case atStart => exact ⟨0, by omega, rfl, HCL.out.congr (fun j _ => rmF_start s o c T d j), HX5.out⟩
      case round =>
        obtain ⟨i, hig, rfl, hcl, hx⟩ := hrel
        have HC1 := Lib.hid hcl
        have HXI := Lib.hid hx
        clear hcl hx HCL HX5
        cases gk with
        | zero =>
          obtain rfl : i = ns := by omega
          clear hig
          go_wp2
          go_ret2
          rw [HRM.out, ← HCD.out]
          refine ⟨_, rfl, ⟨A5, c5, (show Value.slice A5 nc c5 = Value.slice A5 (tab nc (rmv s o c T d)).length c5 from by rw [tab_len]), by rw [tab_len]; exact hc5, ?_⟩, HX4.out.trans HXI.out⟩
          rcases Nat.eq_zero_or_pos nc with h0 | h0
          · subst h0
            exact Rd.nil _ _
          · obtain ⟨eA, _⟩ := HPOS.out h0
            rw [eA]
            exact (HC1.out.congr (fun j hj => rmF_end s o c T d i j (by rw [← HCD.out]; exact hj))).reads (fun j _ => rmv_lt HCC.out.1 d j)
        | succ gh =>
          have hi : i < ns := by omega
          have hiI : (i : Int) < (ns : Int) := by omega
          obtain ⟨e, he⟩ : ∃ e, i * d = e := ⟨_, rfl⟩
          have he2 : e ≤ 4096 * 200 := by rw [← he]; exact Nat.mul_le_mul (by omega) (by omega)
          have e2 : IntKind.i64.wrap ((i : Int) * (d : Int)) = (e : Int) := by rw [← Int.natCast_mul, he]; exact IntWalk.i64_in _ (by omega)
          have HE := Lib.hid he
          have HROW := Lib.hid (fun t (ht : t < d) => show e + t < nc from by rw [HCD.out, ← he]; exact in_row ht hi)
          clear he
          go_wp2
          go_loopg [17] (lt - 1) (fun g2 v17 wx => ∃ kk : Nat, kk + g2 = lt ∧ 1 ≤ kk ∧ v17 = .int .i64 (kk : Int) ∧ Cells wx g5 nc (rmF s o c T d i kk) ∧ Ext w4 wx)
          case atStart => exact ⟨1, by omega, Nat.le_refl _, rfl, HC1.out, HXI.out⟩
          case round =>
            obtain ⟨kk, hkk, hk1, rfl, hcl, hx⟩ := hrel
            have HC2 := Lib.hid hcl
            have HXJ := Lib.hid hx
            clear hcl hx
            cases gk with
            | zero =>
              obtain rfl : kk = lt := by omega
              clear hkk
              go_wp2
              go_roundg gh
              case measure => omega
              case rel => exact ⟨i + 1, by omega, by go_num, HC2.out.congr (fun j _ => by rw [← HLT.out]; exact rmF_next s o c T d i j), HXJ.out⟩
            | succ g2 =>
              have hkl : kk < lt := by omega
              have hklI : (kk : Int) < (lt : Int) := by omega
              obtain ⟨ek, hek⟩ : ∃ ek, e + kk = ek := ⟨_, rfl⟩
              obtain ⟨at', hat'⟩ : ∃ at', e + (kk - 1) = at' := ⟨_, rfl⟩
              have hac : at' < nc := by rw [← hat']; exact HROW.out (kk - 1) (by omega)
              have hacI : (at' : Int) < (nc : Int) := by omega
              have e3 : IntKind.i64.wrap ((e : Int) + (kk : Int)) = (ek : Int) := by rw [IntWalk.i64_in _ (by omega)]; omega
              have e4 : IntKind.i64.wrap ((ek : Int) - 1) = (at' : Int) := by rw [IntWalk.i64_in _ (by omega)]; omega
              obtain ⟨eA, hg5⟩ := HPOS.out (by omega)
              have HAT := Lib.hid (show i * d + (kk - 1) = at' from by rw [HE.out]; exact hat')
              have hv1 := HC2.out at' hac
              rw [← HAT.out, rmF_at s o c T d i kk hk1 (by omega), HAT.out] at hv1
              obtain ⟨b2, o2, eT, hc2⟩ := (HTR.out.ext HXJ.out).2 kk (by rw [HLT.out]; exact hkl)
              obtain ⟨b3, o3, eS, hc3⟩ := (HS.out.ext (HX4.out.trans HXJ.out)).2 i (by rw [HNS.out]; exact hi)
              obtain ⟨b4, o4, eO, hc4⟩ := (HOO.out.ext (HX4.out.trans HXJ.out)).2 i (by rw [HNO.out, ← HSO.out]; exact hi)
              subst eA; subst eT; subst eS; subst eO
              have hiO : (i : Int) < (no : Int) := by have := HSO.out; omega
              have hb1 := HCC.out.1 at'
              have hb2 := HTS.out kk
              have hb3 := HS.out.1 i
              have hb4 := HOO.out.1 i
              obtain ⟨y1, hy1⟩ : ∃ y1, co c at' = y1 := ⟨_, rfl⟩
              obtain ⟨y2, hy2⟩ : ∃ y2, co T kk = y2 := ⟨_, rfl⟩
              obtain ⟨y3, hy3⟩ : ∃ y3, co s i = y3 := ⟨_, rfl⟩
              obtain ⟨y4, hy4⟩ : ∃ y4, co o i = y4 := ⟨_, rfl⟩
              have hstep := fun j => rmF_step s o c T d i kk at' j hk1 (by omega) HAT.out
              rw [hy1] at hv1 hb1
              rw [hy2] at hc2 hb2
              rw [hy3] at hc3 hb3
              rw [hy4] at hc4 hb4
              rw [hy1, hy2, hy3, hy4] at hstep
              have hx34 := u8_xor_nat y3 y4 hb3 hb4
              have hb34 := Gf.xor_lt y3 y4 hb3 hb4
              obtain ⟨y34, hy34⟩ : ∃ y34, y3 ^^^ y4 = y34 := ⟨_, rfl⟩
              rw [hy34] at hx34 hb34 hstep
              obtain ⟨z, hz⟩ : ∃ z, Gf.mul y2 y34 = z := ⟨_, rfl⟩
              have hzb : z < 256 := by rw [← hz]; exact Gf.mul_lt _ _
              have HMU := Lib.hid (fun q => ref_mul_is y2 y34 z hb2 hb34 hz (wr.drewN q))
              rw [hz] at hstep
              have hx1z := u8_xor_nat y1 z hb1 hzb
              obtain ⟨r, hr⟩ : ∃ r, y1 ^^^ z = r := ⟨_, rfl⟩
              have hrb : r < 256 := by rw [← hr]; exact Gf.xor_lt _ _ hb1 hzb
              rw [hr] at hx1z hstep
              have HST := Lib.hid (fun q => ((HC2.out.drewN q).store at' r).congr (F' := rmF s o c T d i (kk + 1)) (fun j _ => hstep j))
              have HEX := Lib.hid (fun q => (HXJ.out.drewN q).setCell (p := ⟨g5, at', none⟩) hg5 (.int .u8 (r : Int)))
              obtain ⟨hv1a, hv1b⟩ := hv1
              clear hy1 hy2 hy3 hy4 hy34 hz hr hstep hek hat'
              go_wp2
              refine wp_region_quiet_tail 22 (fun w' => ∃ q, w' = wr.drewN q) (by kernel_rfl) (by kernel_rfl) ⟨1, rfl⟩ ?_
              simp only [List.take_succ_cons, List.take_zero, List.drop_succ_cons, List.drop_zero]
              repeat (quiet_step (first | (go_at_call 32; exact quiet_same (HMU.out _))))
              refine wpQuiet_nil ?_
              rintro _ ⟨q2, rfl⟩
              go_wp2
              go_roundg g2
              case measure => omega
              case rel => exact ⟨kk + 1, by omega, by omega, by go_num, HST.out q2, HEX.out q2⟩
    | succ gh =>
      have hi : i < nw := by omega
      have hiI : (i : Int) < (nw : Int) := by omega
      obtain ⟨b1, o1, e1, hc1⟩ := (HD.out.ext (HX1.out.trans HX.out)) i (by rw [HN.out]; exact hi)
      subst e1
      obtain ⟨x, hxx⟩ : ∃ x, wn who i = x := ⟨_, rfl⟩
      rw [hxx] at hc1
      have HXX := Lib.hid hxx
      clear hxx
      have hlo : 0 ≤ x := by rw [← HXX.out]; exact (HW.out i hi).1
      have hhi : x ≤ 199 := by rw [← HXX.out]; exact (HW.out i hi).2
      have t1 : decide (x < 0) = false := decide_eq_false (by omega)
      have t2 : decide (199 < x) = false := decide_eq_false (by omega)
      obtain ⟨y, hy⟩ : ∃ y : Nat, x.toNat + 1 = y := ⟨_, rfl⟩
      have ey : IntKind.u8.wrap (x + 1) = (y : Int) := by rw [IntWalk.u8_in _ (by omega)]; omega
      have hy256 : y < 256 := by omega
      have HS1 := Lib.hid (show rptsN who i ++ [(y, 0)] = rptsN who (i + 1) from by rw [← HSUC.out i hi, HXX.out, hy])
      have HPL1 := Lib.hid (HPL.out i (by omega))
      have HPL2 := Lib.hid (HPL.out (i + 1) (by omega))
      have HSM1 := Lib.hid (HPS.out (i + 1) (by omega))
      clear hy
      go_wp2_with (at_builtin; refine wpList_append_prd rfl (.tmp 71) (.tmp 79) rfl w1.heap.size _ (rptsN who i) [(y, 0)] rfl (HM.out.kept ((Ext.refl _).alloc _)) (some ⟨wr.heap.size, 0, none⟩) 1 1 rfl rfl (one_prd wr y 0 hy256 (by omega)) (by rw [HPL1.out]; simp; omega) (by simp; have := HX.out.size; omega) ?_; intro v' w3 hown' hg' hat'; rw [HS1.out] at hown'; have hx3 := (HX.out.alloc (.cells #[.int .u8 (y : Int), .int .u8 0] 62)).more hg' (fun r e => HM.out.block r e); obtain ⟨Bv, cv, ev', hcv, _⟩ := hown'.slice HSM1.out; rw [HPL2.out] at ev' hcv; subst ev'; have HO := Lib.hid hown'; have HX3 := Lib.hid hx3; clear hown' hg' hat' hx3)
      go_roundg gh
      case measure => omega
      case rel => exact ⟨i + 1, Bv, cv, by omega, by go_num, rfl, HO.out, HX3.out⟩
end Go.Proofs.Ytjibelmncbfbjaa

/-
  The statements' own comparison of bytes tells lists that are unlike from those that are alike. Conditions: no more than 2^20 bytes.
-/
namespace Go.Proofs.Ytjibelmncbfbjaa
open Go.RowKit
open Pol (co Sm)

set_option maxHeartbeats 400000 in
set_option maxRecDepth 100000 in
theorem same_no (l m : List Nat) (A B : Option Addr) (ca cb : Nat) (w : World) (ha : Rd w A l) (hb : Rd w B m) (hl : l.length ≤ 1048576) (h : l ≠ m) :
    Calls Try.prog 12 #[.slice A l.length ca, .slice B m.length cb] w (Hands (.bool false) w) := by
  by_cases hlm : l.length = m.length
  · rw [← hlm]
    have HNE := Lib.hid (fun (k : ∀ j, j < l.length → co l j = co m j) => h (Lin.list_ext hlm k))
    have HLM := Lib.hid hlm
    generalize hn : l.length = n at *
    have HA := Lib.hid ha
    have HB := Lib.hid hb
    have HN := Lib.hid hn
    clear ha hb hn h hlm
    go_enter Try.func12, Try.ntmps12
    go_wp2
    go_loopg [13] n (fun g s wx => ∃ k q : Nat, k + g = n ∧ s = .int .i64 (k : Int) ∧ wx = w.drewN q ∧ ∀ j, j < k → co l j = co m j)
    case atStart => exact ⟨0, 0, by omega, rfl, rfl, fun j hj => by omega⟩
    case round =>
      obtain ⟨k, q, hkg, rfl, rfl, hsame⟩ := hrel
      have HSA := Lib.hid hsame
      clear hsame
      cases gk with
      | zero =>
        obtain rfl : k = n := by omega
        exact absurd HSA.out HNE.out
      | succ g =>
        have hk : k < n := by omega
        obtain ⟨b, o, rfl, hc⟩ := HA.out.2 k (by rw [HN.out]; exact hk)
        obtain ⟨b', o', rfl, hc'⟩ := HB.out.2 k (by rw [← HLM.out]; exact hk)
        have hkI : (k : Int) < (n : Int) := by omega
        obtain ⟨x, hx⟩ : ∃ x, co l k = x := ⟨_, rfl⟩
        obtain ⟨y, hy⟩ : ∃ y, co m k = y := ⟨_, rfl⟩
        rw [hx] at hc
        rw [hy] at hc'
        by_cases e : x = y
        · have t : ((x : Int) != (y : Int)) = false := by subst e; simp
          have HE := Lib.hid (show co l k = co m k by rw [hx, hy]; exact e)
          clear e hx hy
          go_wp2
          go_quiet (fail)
          go_wp2
          go_roundg g
          case measure => omega
          case rel => exact ⟨k + 1, _, by omega, by go_num, rfl, fun j hj => by
            by_cases e : j = k
            · subst e; exact HE.out
            · exact HSA.out j (by omega)⟩
        · have t : ((x : Int) != (y : Int)) = true := by simp; omega
          clear e hx hy
          go_wp2
          go_quiet (fail)
          go_wp2
          go_ret
          exact ⟨rfl, q + nq, by rw [World.drewN_drewN]⟩
  · have t : ((l.length : Int) != (m.length : Int)) = true := by simp; omega
    generalize l.length = n at *
    generalize m.length = n' at *
    clear ha hb h
    go_enter Try.func12, Try.ntmps12
    go_wp2
    go_ret
    exact ⟨rfl, 0, rfl⟩
end Go.Proofs.Ytjibelmncbfbjaa

/-
  The law BlindTells, walked, under what layer 6's functions are to do. Conditions: none.
-/
namespace Go.Proofs.Ytjibelmncbfbjaa
open Go.RowKit
open Pol (co Sm ev px py Apart)

set_option maxHeartbeats 1600000 in
set_option maxRecDepth 100000 in
theorem tells6_big (C : BlindSaid) (A B Cc D : Option Addr) (ns no nc nw ca cb cc cd : Nat) (k : Int) (w : World)  (h : 30 < ns ∨ 200 < nc ∨ 20 < nw) :
    Calls Try.prog 3 #[.slice A ns ca, .slice B no cb, .slice Cc nc cc, .int .i64 k, .slice D nw cd] w (Holds w) := by
  have HAW := Lib.hid (fun u => awake6 C u)
  clear C
  by_cases h0 : 30 < ns
  · have e0 : decide ((30 : Int) < (ns : Int)) = true := decide_eq_true (by omega)
    clear h
    go_enter Try.func3, Try.ntmps3
    go_wp2_with fail
    refine (HAW.out w).mono ?_
    rintro e w1 ⟨rfl, hx1⟩
    have HX1 := Lib.hid hx1
    clear hx1
    go_wp2_with fail
    refine (HAW.out w1).mono ?_
    rintro e w2 ⟨rfl, hx2⟩
    have HX2 := Lib.hid (HX1.out.trans hx2)
    clear hx2
    go_wp2
    go_ret
    exact ⟨rfl, HX2.out⟩
  have e0 : decide ((30 : Int) < (ns : Int)) = false := decide_eq_false (by omega)
  by_cases h1 : 200 < nc
  · have e1 : decide ((200 : Int) < (nc : Int)) = true := decide_eq_true (by omega)
    clear h
    go_enter Try.func3, Try.ntmps3
    go_wp2_with fail
    refine (HAW.out w).mono ?_
    rintro e w1 ⟨rfl, hx1⟩
    have HX1 := Lib.hid hx1
    clear hx1
    go_wp2_with fail
    refine (HAW.out w1).mono ?_
    rintro e w2 ⟨rfl, hx2⟩
    have HX2 := Lib.hid (HX1.out.trans hx2)
    clear hx2
    go_wp2
    go_ret
    exact ⟨rfl, HX2.out⟩
  have e1 : decide ((200 : Int) < (nc : Int)) = false := decide_eq_false (by omega)
  have h2 : 20 < nw := by omega
  have e2 : decide ((20 : Int) < (nw : Int)) = true := decide_eq_true (by omega)
  clear h
  go_enter Try.func3, Try.ntmps3
  go_wp2_with fail
  refine (HAW.out w).mono ?_
  rintro e w1 ⟨rfl, hx1⟩
  have HX1 := Lib.hid hx1
  clear hx1
  go_wp2_with fail
  refine (HAW.out w1).mono ?_
  rintro e w2 ⟨rfl, hx2⟩
  have HX2 := Lib.hid (HX1.out.trans hx2)
  clear hx2
  go_wp2
  go_ret
  exact ⟨rfl, HX2.out⟩

set_option maxHeartbeats 3200000 in
set_option maxRecDepth 100000 in
theorem tells6_walk (C : BlindSaid) (s o c : List Nat) (k : Int) (who : List Int) (A B Cc D : Option Addr) (ca cb cc cd : Nat) (w : World) (hs : Rd w A s) (ho : Rd w B o) (hc : Rd w Cc c) (hd : JRd w D who) (hca : s.length ≤ ca) (hcb : o.length ≤ cb) (hcc : c.length ≤ cc) (hcd : who.length ≤ cd) (hI : ∀ i, In64 (wn who i)) (hk : In64 k) :
    Calls Try.prog 3 #[.slice A s.length ca, .slice B o.length cb, .slice Cc c.length cc, .int .i64 k, .slice D who.length cd] w (Holds w) := by
  by_cases hbig : 30 < s.length ∨ 200 < c.length ∨ 20 < who.length
  · exact tells6_big C A B Cc D _ _ _ _ ca cb cc cd k w hbig
  have HAW := Lib.hid (fun u => awake6 C u)
  have e0 : decide ((30 : Int) < (s.length : Int)) = false := decide_eq_false (by omega)
  have e1 : decide ((200 : Int) < (c.length : Int)) = false := decide_eq_false (by omega)
  have e2 : decide ((20 : Int) < (who.length : Int)) = false := decide_eq_false (by omega)
  -- one answer for both
  obtain ⟨R, n, HR1, HR2, hRl⟩ : ∃ (R : List Nat) (n : Int), (∀ f u, IsField u f → Ext w u → Calls Try.prog 9 #[.pointer (some ⟨f, 0, none⟩), .slice A s.length ca, .slice B o.length cb, .slice Cc c.length cc, .int .i64 k, .slice D who.length cd] u (GivesE R n u)) ∧
      (∀ u, Ext w u → Calls Try.prog 11 #[.slice A s.length ca, .slice B o.length cb, .slice Cc c.length cc, .int .i64 k, .slice D who.length cd] u (GivesE R n u)) ∧ R.length ≤ 1048576 := by
    by_cases hok : RemapOk s o c k who
    · obtain ⟨d, hdk⟩ : ∃ d : Nat, k = (d : Int) + 1 := ⟨(k - 1).toNat, by have := hok.1; omega⟩
      refine ⟨remap s o c d who, 0, fun f u hf hu => ?_, fun u hu => ?_, ?_⟩
      · have hk' : k = ((d + 1 : Nat) : Int) := by omega
        rw [hk'] at hok ⊢
        exact C.remap f s o c d who A B Cc D ca cb cc cd u hf (hs.ext hu) (ho.ext hu) (hc.ext hu) (hd.ext hu) hca hcb hcc hcd (by omega) hok
      · exact ref_remap s o c who d k A B Cc D ca cb cc cd u (hs.ext hu) (ho.ext hu) (hc.ext hu) (hd.ext hu) hok hdk (by omega)
      · rw [remap_len]
        have h1 := hok.2.1
        exact Nat.le_trans (Nat.mul_le_mul (show s.length ≤ 30 by omega) (show d ≤ 200 by omega)) (by decide)
    · refine ⟨[], 1, fun f u hf hu => ?_, fun u hu => ?_, by decide⟩
      · exact C.remapOdd f s o c k who A B Cc D ca cb cc cd u hf (hs.ext hu) (ho.ext hu) (hc.ext hu) (hd.ext hu) hca hcb hcc hcd (by omega) (by omega) (by omega) hI hk hok
      · by_cases hn : RemNum s.length o.length c.length k who.length
        · refine ref_remap_who s.length o.length c.length who k A B Cc D ca cb cc cd u (hd.ext hu) hI hn (fun hw => hok ?_)
          obtain ⟨h1, h2, h3, h4, h5, h6⟩ := hn
          exact ⟨h1, h2, h3, h4, h5, h6, hw⟩
        · exact ref_remap_num s.length o.length c.length who.length k A B Cc D ca cb cc cd u hn
  have H1 := Lib.hid HR1
  have H2 := Lib.hid HR2
  have HSA := Lib.hid (fun X Y cx cy W (hX : Rd W X R) (hY : Rd W Y R) => same_true R X Y cx cy W hX hY hRl)
  clear HR1 HR2 hs ho hc hd hbig hI hk C hRl
  generalize s.length = ns at *
  generalize o.length = no at *
  generalize c.length = nc at *
  generalize who.length = nw at *
  generalize hrl : R.length = nr at *
  have HRL := Lib.hid hrl
  clear hrl
  go_enter Try.func3, Try.ntmps3
  go_wp2_with fail
  refine (HAW.out w).mono ?_
  rintro e w1 ⟨rfl, hx1⟩
  have HX1 := Lib.hid hx1
  clear hx1
  go_wp2_with fail
  refine (new_any w1).mono ?_
  rintro e w2 ⟨f, rfl, hf, _, hx2⟩
  have HF := Lib.hid hf
  have HX2 := Lib.hid (HX1.out.trans hx2)
  clear hf hx2
  go_wp2_with fail
  refine (H1.out f w2 HF.out HX2.out).mono ?_
  rintro e w3 ⟨v3, rfl, ⟨B3, c3, rfl, hc3, hr3⟩, hx3⟩
  rw [HRL.out] at hc3 ⊢
  have HX3 := Lib.hid (HX2.out.trans hx3)
  have HR3 := Lib.hid hr3
  clear hx3 hr3
  go_wp2_with fail
  refine (H2.out w3 HX3.out).mono ?_
  rintro e w4 ⟨v4, rfl, ⟨B4, c4, rfl, hc4, hr4⟩, hx4⟩
  rw [HRL.out] at hc4 ⊢
  have HX4 := Lib.hid (HX3.out.trans hx4)
  have HS4 := Lib.hid (HSA.out B3 B4 c3 c4 w4 (HR3.out.ext hx4) hr4)
  have tn : (n == n) = true := by simp
  clear hx4 hr4
  go_wp2_with fail
  refine HS4.out.mono ?_
  rintro e w5 ⟨rfl, q5, rfl⟩
  go_wp2
  go_ret
  exact ⟨rfl, HX4.out.drewN q5⟩
end Go.Proofs.Ytjibelmncbfbjaa

/-
  What sum, Seal and Pad of layer 6 do. Conditions: no more than 2^12 bytes.
-/
namespace Go.Proofs.Ytjibelmncbfbjaa
open Go.RowKit
open Pol (co Sm ev px py Apart)

/-- The first k sums, and 0 behind them. -/
def sk (t p : List Nat) (k i : Nat) : Nat := if i < k then co t i ^^^ co p i else 0
theorem sk_lt {t p : List Nat} (ht : Sm t) (hp : Sm p) (k i : Nat) : sk t p k i < 256 := by
  unfold sk
  split
  · exact Gf.xor_lt _ _ (ht i) (hp i)
  · omega
theorem sk_step (t p : List Nat) (k i : Nat) : upd (sk t p k) k (co t k ^^^ co p k) i = sk t p (k + 1) i := by
  unfold upd sk
  by_cases e : i = k
  · subst e; rw [if_pos rfl, if_pos (by omega)]
  · rw [if_neg e]
    by_cases h : i < k
    · rw [if_pos h, if_pos (by omega)]
    · rw [if_neg h, if_neg (by omega)]
theorem sk_all (t p : List Nat) (n : Nat) (hn : t.length = n) : tab n (sk t p n) = lx t p := by
  subst hn
  unfold lx tab
  refine List.map_congr_left fun i hi => ?_
  unfold sk
  rw [if_pos (List.mem_range.1 hi)]

set_option maxHeartbeats 800000 in
set_option maxRecDepth 100000 in
theorem j_sum (t p : List Nat) (A B : Option Addr) (ca cb : Nat) (w : World) (ha : Rd w A t) (hb : Rd w B p) (hl : t.length ≤ 4096) (he : t.length = p.length) :
    Calls Try.prog 35 #[.slice A t.length ca, .slice B p.length cb] w (GivesE (lx t p) 0 w) := by
  have HLL := Lib.hid (lx_len t p)
  rw [← he]
  generalize hna : t.length = n at *
  have HALL := Lib.hid (sk_all t p n hna)
  have HA := Lib.hid ha
  have HB := Lib.hid hb
  have HNA := Lib.hid hna
  have HNB := Lib.hid he.symm
  have hmk := fun W => run_make_u8 n (by omega) W
  have t0 : ((n : Int) != (n : Int)) = false := by simp
  clear ha hb hna he
  go_enter Try.func35, Try.ntmps35
  go_wp2
  clear hmk t0
  go_loopg [18] n (fun g s wx => ∃ j : Nat, j + g = n ∧ s = .int .i64 (j : Int) ∧ Blk wx w.heap.size n (sk t p j) ∧ Ext w wx)
  case atStart => exact ⟨0, by omega, rfl, (Blk.new w n _).congr (fun i _ => by unfold sk; rw [if_neg (by omega)]), (Ext.refl _).alloc _⟩
  case round =>
    obtain ⟨j, hjg, rfl, hblk, hx⟩ := hrel
    have HY := Lib.hid hx
    have HL := Lib.hid hblk
    clear hx hblk
    cases gk with
    | zero =>
      obtain rfl : j = n := by omega
      clear hjg
      have HR := Lib.hid (HALL.out ▸ HL.out.reads (fun i _ => sk_lt HA.out.1 HB.out.1 j i))
      go_wp2
      go_ret2
      exact ⟨_, rfl, ⟨_, _, by rw [HLL.out]; rfl, by rw [HLL.out]; exact Nat.le_refl _, HR.out⟩, HY.out⟩
    | succ g =>
      have hj : j < n := by omega
      have hjI : (j : Int) < (n : Int) := by omega
      obtain ⟨b1, o1, e1, hc1⟩ := (HA.out.ext HY.out).2 j (by rw [HNA.out]; exact hj)
      obtain ⟨b2, o2, e2, hc2⟩ := (HB.out.ext HY.out).2 j (by rw [HNB.out]; exact hj)
      subst e1; subst e2
      have hc3 := HL.out.cell j hj
      have hfz := HL.out.frozen j
      have HU := Lib.hid (((HL.out.drewN 1).store j (co t j ^^^ co p j)).congr (f' := sk t p (j + 1)) (fun i _ => sk_step t p j i))
      have HE := Lib.hid ((HY.out.drewN 1).setCell (p := ⟨w.heap.size, j, none⟩) (Nat.le_refl _) (.int .u8 ((co t j ^^^ co p j : Nat) : Int)))
      have HM := Lib.hid (fun W => (add_is (co t j) (co p j) _ (HA.out.1 j) (HB.out.1 j) rfl W).mono fun _ _ h => (⟨h.1, h.2.symm⟩ : _ ∧ _ = W))
      go_wp2
      go_still_tail 12, (by kernel_rfl)
      still_call (HM.out _)
      repeat still_step
      refine wpStill_nil ?_
      change wpList _ _ _ _ _ wr.drew
      go_wp2
      go_roundg g
      case measure => omega
      case rel => exact ⟨j + 1, by omega, by go_num, HU.out, HE.out⟩

theorem j_sum_no (t p : Nat) (A B : Option Addr) (ca cb : Nat) (w : World) (he : t ≠ p) :
    Calls Try.prog 35 #[.slice A t ca, .slice B p cb] w (GivesE [] 1 w) := by
  have t0 : ((t : Int) != (p : Int)) = true := by simp; omega
  clear he
  go_enter Try.func35, Try.ntmps35
  go_wp2
  go_ret2
  exact ⟨_, rfl, sl_none _, Ext.refl w⟩
theorem j_seal (l : List Nat) (n : Int) (x y : Value) (w : World) (h : Calls Try.prog 35 #[x, y] w (GivesE l n w)) :
    Calls Try.prog 16 #[x, y] w (GivesE l n w) := by
  have H := Lib.hid h
  clear h
  go_enter Try.func16, Try.ntmps16
  go_wp2_with fail
  refine H.out.mono ?_
  rintro e w1 ⟨v, rfl, hs, hx⟩
  have HS := Lib.hid hs
  have HX := Lib.hid hx
  clear hs hx
  go_wp2
  go_ret2
  exact ⟨_, rfl, HS.out, HX.out⟩
theorem j_pad (l : List Nat) (n : Int) (x y : Value) (w : World) (h : Calls Try.prog 35 #[x, y] w (GivesE l n w)) :
    Calls Try.prog 17 #[x, y] w (GivesE l n w) := by
  have H := Lib.hid h
  clear h
  go_enter Try.func17, Try.ntmps17
  go_wp2_with fail
  refine H.out.mono ?_
  rintro e w1 ⟨v, rfl, hs, hx⟩
  have HS := Lib.hid hs
  have HX := Lib.hid hx
  clear hs hx
  go_wp2
  go_ret2
  exact ⟨_, rfl, HS.out, HX.out⟩
end Go.Proofs.Ytjibelmncbfbjaa

/-
  The builtin copy of bytes to the front of a block of the call's own. Conditions: the block is at least as long.
-/
namespace Go.Proofs.Ytjibelmncbfbjaa
open Go.RowKit
open Pol (co Sm)

/-- A copy of bytes to the front of a block of the call's own. -/
theorem splice_bt (n : Nat) (f : Nat → Nat) (a : List Nat) (h : a.length ≤ n) : (splice (bt n f).toList 0 (bv a)).toArray = bt n (fun i => if i < a.length then co a i else f i) := by
  apply Array.ext
  · simp [splice, bv_len, bt_size]; omega
  · intro i h1 h2
    have hi : i < n := by rwa [bt_size] at h2
    rw [← Option.some_inj, ← Array.getElem?_eq_getElem, ← Array.getElem?_eq_getElem, bt_at _ _ _ hi]
    simp only [splice, List.take_zero, List.nil_append, Nat.zero_add, List.getElem?_toArray, bv_len]
    by_cases hia : i < a.length
    · rw [List.getElem?_append_left (by rw [bv_len]; exact hia), bv_at a i hia, if_pos hia]
    · rw [List.getElem?_append_right (by rw [bv_len]; omega), List.getElem?_drop, bv_len, if_neg hia, show a.length + (i - a.length) = i from by omega]
      have := bt_at n f i hi
      simpa using this
theorem wpList_copy_blk {ops : Array Oper} {rest : List Oper} {o : Oper} {act : Act} {w : World} {Q : Exit → Act → World → Prop} (hgd : o.guard = none) (d s : Operand)
    (ho : o.op = .call { callee := .builtin .copy, args := #[d, s], argTypes := #[22, 22] }) (g n dc : Nat) (f : Nat → Nat) (hd : act.eval d = .slice (some ⟨g, 0, none⟩) n dc) (hb : Blk w g n f)
    (A : Option Addr) (a : List Nat) (k c : Nat) (hs : act.eval s = .slice A k c) (hk : a.length = k) (hr : Rd w A a) (hn : k ≤ n) (w0 : World) (hx : Ext w0 w) (hg : w0.heap.size ≤ g)
    (h : ∀ w', Hid (Blk w' g n (fun i => if i < a.length then co a i else f i)) → Ext w0 w' → wpList Try.prog ops Q rest (act.put o.dst (goInt k)) w') :
    wpList Try.prog ops Q (o :: rest) act w := by
  subst hk
  refine wpList_copy_splice hgd d s 22 22 ho 5 Try.underlying22 (by kernel_rfl) _ A n dc a.length c hd hs g 0 (bt n f).toList 5 (by unfold Blk at hb; simpa using hb) (bv a) (by rw [bv_len]; exact (Nat.min_eq_left hn).symm)
    (fun hp => ⟨rfl, ?_⟩) (by simp [bv_len, bt_size]; omega) (bv_one a) w0.heap.size w0 hx.below hg ?_
  · rw [bv_len] at hp
    obtain ⟨b, o', e, hc⟩ := hr.addr hp
    refine ⟨_, e, fun j v hj => ?_⟩
    have hj' : j < a.length := by
      have := (List.getElem?_eq_some_iff.1 hj).1
      rwa [bv_len] at this
    rw [addr_add, hc j hj', ← bv_at a j hj', hj]
  · intro w' HG hB
    rw [bv_len]
    refine h w' (Lib.hid ?_) ⟨hB⟩
    unfold Blk
    rw [HG.out, splice_bt n f a hn]
end Go.Proofs.Ytjibelmncbfbjaa

/-
  What Fill of layer 6 does. Conditions: no more than 2^12 bytes.
-/
namespace Go.Proofs.Ytjibelmncbfbjaa
open Go.RowKit
open Pol (co Sm ev px py Apart)

/-- A copy of bytes somewhere into a block of the call's own. -/
theorem splice_at (n off : Nat) (f : Nat → Nat) (a : List Nat) (h : off + a.length ≤ n) : (splice (bt n f).toList off (bv a)).toArray = bt n (fun i => if off ≤ i ∧ i < off + a.length then co a (i - off) else f i) := by
  apply Array.ext
  · simp [splice, bv_len, bt_size]; omega
  · intro i h1 h2
    have hi : i < n := by rwa [bt_size] at h2
    have hl : (bt n f).toList.length = n := by simp [bt_size]
    have hb : ∀ j, j < n → (bt n f).toList[j]? = some (.int .u8 ((f j : Nat) : Int)) := fun j hj => by simpa using bt_at n f j hj
    rw [← Option.some_inj, ← Array.getElem?_eq_getElem, ← Array.getElem?_eq_getElem, bt_at _ _ _ hi]
    simp only [splice, List.getElem?_toArray, bv_len]
    by_cases h1 : i < off
    · rw [List.getElem?_append_left (by rw [List.length_take, hl]; omega), List.getElem?_take, if_pos h1, if_neg (by omega), hb i hi]
    · rw [List.getElem?_append_right (by rw [List.length_take, hl]; omega), List.length_take, hl, Nat.min_eq_left (by omega)]
      by_cases hia : i - off < a.length
      · rw [List.getElem?_append_left (by rw [bv_len]; exact hia), bv_at a _ hia, if_pos (by omega)]
      · rw [List.getElem?_append_right (by rw [bv_len]; omega), List.getElem?_drop, bv_len, if_neg (by omega), show off + a.length + (i - off - a.length) = i from by omega, hb i hi]
theorem wpList_copy_at {ops : Array Oper} {rest : List Oper} {o : Oper} {act : Act} {w : World} {Q : Exit → Act → World → Prop} (hgd : o.guard = none) (d s : Operand)
    (ho : o.op = .call { callee := .builtin .copy, args := #[d, s], argTypes := #[22, 22] }) (g n off dl dc : Nat) (X : Option Addr) (f : Nat → Nat) (hd : act.eval d = .slice X dl dc) (hb : Blk w g n f)
    (A : Option Addr) (a : List Nat) (k c : Nat) (hs : act.eval s = .slice A k c) (hk : a.length = k) (hr : Rd w A a) (hX : 0 < k → X = some ⟨g, off, none⟩) (hdl : k ≤ dl) (hn : off + k ≤ n) (w0 : World) (hx : Ext w0 w) (hg : w0.heap.size ≤ g)
    (h : ∀ w', Hid (Blk w' g n (fun i => if off ≤ i ∧ i < off + k then co a (i - off) else f i)) → Ext w0 w' → wpList Try.prog ops Q rest (act.put o.dst (goInt k)) w') :
    wpList Try.prog ops Q (o :: rest) act w := by
  subst hk
  refine wpList_copy_splice hgd d s 22 22 ho 5 Try.underlying22 (by kernel_rfl) X A dl dc a.length c hd hs g off (bt n f).toList 5 (by unfold Blk at hb; simpa using hb) (bv a) (by rw [bv_len]; exact (Nat.min_eq_left hdl).symm)
    (fun hp => ⟨hX (by rwa [bv_len] at hp), ?_⟩) (by simp [bv_len, bt_size]; omega) (bv_one a) w0.heap.size w0 hx.below hg ?_
  · rw [bv_len] at hp
    obtain ⟨b, o', e, hc⟩ := hr.addr hp
    refine ⟨_, e, fun j v hj => ?_⟩
    have hj' : j < a.length := by
      have := (List.getElem?_eq_some_iff.1 hj).1
      rwa [bv_len] at this
    rw [addr_add, hc j hj', ← bv_at a j hj', hj]
  · intro w' HG hB
    rw [bv_len]
    refine h w' (Lib.hid ?_) ⟨hB⟩
    unfold Blk
    rw [HG.out, splice_at n off f a hn]
/-- s[l:] of bytes, whole. -/
theorem run_rest_u8 (A : Option Addr) (len cap l : Nat) (hl : l ≤ len) (hc : len ≤ cap) : ∃ X : Option Addr, (∀ W, (Instr.slice 22 (.slice A len cap) (some (.int .i64 (l : Int))) none none).run Try.prog W = .ok (.slice X (len - l) (cap - l)) W) ∧
    (∀ w L, Rd w A L → L.length = len → Rd w X (tab (len - l) (fun j => co L (l + j)))) ∧ (∀ b o, l < cap → A = some ⟨b, o, none⟩ → X = some ⟨b, o + l, none⟩) := by
  obtain ⟨i0, hi, hz0, hz1, hz2⟩ := info_parts u8_info
  have he : Try.prog.elem 22 = 5 := by kernel_rfl
  refine ⟨if cap = l then A else A.map (·.add l), fun W => ?_, fun w L h hL => ⟨tab_sm _ _ fun _ _ => h.1 _, fun i hi => ?_⟩, fun b o h e => ?_⟩
  · rw [run_slice_l W 22 _ len cap (by rw [he]; exact Try.underlying22) .i64 (l : Int) (by omega) (by omega), he]
    cases A <;> simp [sizeOf, typeInfo, hi, hz1, Result.andThen, sliced]
  · rw [tab_len] at hi
    obtain ⟨b', o', e, hc⟩ := h.2 (l + i) (by omega)
    subst e
    refine ⟨b', o' + l, by rw [if_neg (by omega)]; simp [addr_add], ?_⟩
    rw [co_tab, if_pos hi, Nat.add_assoc]
    exact hc
  · subst e
    rw [if_neg (by omega)]
    simp [addr_add]

set_option maxHeartbeats 800000 in
theorem j_fill_no (n : Nat) (m : Int) (A : Option Addr) (ca : Nat) (w : World) (h : ¬ FillOk n m) :
    Calls Try.prog 18 #[.slice A n ca, .int .i64 m] w (GivesE [] 6 w) := by
  unfold FillOk at h
  by_cases h1 : m < 1
  · have d1 : decide (m < 1) = true := decide_eq_true h1
    clear h
    go_enter Try.func18, Try.ntmps18
    go_wp2
    go_ret2
    exact ⟨_, rfl, sl_none _, Ext.refl w⟩
  have d1 : decide (m < 1) = false := decide_eq_false h1
  by_cases h2 : 256 < m
  · have d2 : decide (256 < m) = true := decide_eq_true h2
    clear h
    go_enter Try.func18, Try.ntmps18
    go_wp2
    go_ret2
    exact ⟨_, rfl, sl_none _, Ext.refl w⟩
  have d2 : decide (256 < m) = false := decide_eq_false h2
  have d3 : decide (m ≤ (n : Int)) = true := decide_eq_true (by omega)
  clear h
  go_enter Try.func18, Try.ntmps18
  go_wp2
  go_ret2
  exact ⟨_, rfl, sl_none _, Ext.refl w⟩

set_option maxHeartbeats 1600000 in
set_option maxRecDepth 100000 in
theorem j_fill (t : List Nat) (m : Nat) (A : Option Addr) (ca : Nat) (w : World) (hr : Rd w A t) (h : FillOk t.length (m : Int)) :
    Calls Try.prog 18 #[.slice A t.length ca, .int .i64 (m : Int)] w (GivesE (fil t m) 0 w) := by
  obtain ⟨h1, h2, h3⟩ := h
  have HFS := Lib.hid (fil_sm (m := m) hr.1 (by omega))
  have HFL := Lib.hid (fil_len t m)
  have HCO := Lib.hid (fun i (hi : t.length ≤ i) => Pol.co_out t i hi)
  have HFE := Lib.hid (show fil t m = tab m (fun i => if i = 0 then t.length else co t (i - 1)) from rfl)
  have HR := Lib.hid hr
  clear hr
  generalize hn : t.length = n at *
  have HN := Lib.hid hn
  clear hn
  have d1 : decide ((m : Int) < 1) = false := decide_eq_false (by omega)
  have d2 : decide (256 < (m : Int)) = false := decide_eq_false (by omega)
  have d3 : decide (m ≤ n) = false := decide_eq_false (by omega)
  have ew : IntKind.u8.wrap (n : Int) = (n : Int) := IntWalk.u8_in _ (by omega)
  have hmk := run_make_u8 m (by omega) w
  have hm0 : (0 : Int) < (m : Int) := by omega
  obtain ⟨X, hX, _, hXa⟩ := run_rest_u8 (some ⟨w.heap.size, 0, none⟩) m m 1 (by omega) (Nat.le_refl _)
  have hX' : ∀ W, (Instr.slice 22 (.slice (some ⟨w.heap.size, 0, none⟩) m m) (some (.int .i64 1)) none none).run Try.prog W = .ok (.slice X (m - 1) (m - 1)) W := hX
  obtain ⟨m1, hm1⟩ : ∃ m1, m - 1 = m1 := ⟨_, rfl⟩
  rw [hm1] at hX'
  have HM1 := Lib.hid hm1
  have HXA := Lib.hid (show 0 < n → X = some ⟨w.heap.size, 1, none⟩ from fun h => hXa _ _ (by omega) rfl)
  obtain ⟨wa, hwa⟩ : ∃ wa, w.alloc (.cells (bt m fun _ => 0) 5) = wa := ⟨_, rfl⟩
  have hb0 : Blk wa w.heap.size m (fun _ => 0) := hwa ▸ Blk.new w m _
  have hxa : Ext w wa := hwa ▸ (Ext.refl w).alloc _
  have hc0 := hb0.cell 0 (by omega)
  have hf0 := hb0.frozen 0
  have HB1 := Lib.hid (hb0.store 0 n)
  have HX1 := Lib.hid (hxa.setCell (p := ⟨w.heap.size, 0, none⟩) (Nat.le_refl _) (.int .u8 (n : Int)))
  rw [hwa] at hmk
  clear hX hXa hm1 hb0 hxa hwa
  go_enter Try.func18, Try.ntmps18
  go_wp2_with (with_reducible refine wpList_copy_at rfl (.tmp 27) (.tmp 28) rfl w.heap.size m 1 m1 m1 X _ rfl HB1.out A t n ca rfl HN.out (HR.out.ext HX1.out) HXA.out (by have := HM1.out; omega) (by have := HM1.out; omega) w HX1.out (Nat.le_refl _) ?_; intro w2 HB2 hx2)
  have HX2 := Lib.hid hx2
  clear hx2
  go_wp2
  go_ret2
  refine ⟨_, rfl, ⟨_, _, by rw [HFL.out]; rfl, by rw [HFL.out]; exact Nat.le_refl _, ?_⟩, HX2.out⟩
  have hb := HB2.out.congr (f' := fun i => if i = 0 then n else co t (i - 1)) (fun i _ => by
    unfold upd
    by_cases e : i = 0
    · subst e; rw [if_neg (by omega), if_pos rfl, if_pos rfl]
    · rw [if_neg e, if_neg e]
      by_cases h : i < 1 + n
      · rw [if_pos (by omega)]
      · rw [if_neg (by omega), HCO.out _ (by omega)])
  rw [HFE.out]
  refine hb.reads fun i _ => ?_
  have h := HFS.out i
  rw [HFE.out, co_tab] at h
  split at h
  · exact h
  · omega
end Go.Proofs.Ytjibelmncbfbjaa

/-
  What zeros and Strip of layer 6 do. Conditions: no more than 2^12 bytes.
-/
namespace Go.Proofs.Ytjibelmncbfbjaa
open Go.RowKit
open Pol (co Sm ev px py Apart)

/-- Whether all bytes are 0. -/
def Zer (l : List Nat) : Prop := ∀ i, co l i = 0
def ZerE (l : List Nat) (w : World) (e : Ending) (w' : World) : Prop := (Zer l ∧ e = .returned (.bool true) ∧ w = w') ∨ (¬ Zer l ∧ e = .returned (.bool false) ∧ w = w')

set_option maxHeartbeats 800000 in
theorem j_zeros (l : List Nat) (A : Option Addr) (ca : Nat) (w : World) (ha : Rd w A l) (hl : l.length ≤ 4096) :
    Calls Try.prog 36 #[.slice A l.length ca] w (ZerE l w) := by
  unfold ZerE
  have HOUT := Lib.hid (fun i (hi : l.length ≤ i) => Pol.co_out l i hi)
  generalize hnn : l.length = n at *
  have HA := Lib.hid ha
  have HN := Lib.hid hnn
  clear ha hnn
  go_enter Try.func36, Try.ntmps36
  go_wp2
  go_loopg [7] n (fun g s wx => ∃ k : Nat, k + g = n ∧ s = .int .i64 (k : Int) ∧ (∀ j, j < k → co l j = 0) ∧ w = wx)
  case atStart => exact ⟨0, by omega, rfl, fun j h => by omega, rfl⟩
  case round =>
    obtain ⟨k, hkg, rfl, hall, rfl⟩ := hrel
    have HALL := Lib.hid hall
    clear hall
    cases gk with
    | zero =>
      obtain rfl : k = n := by omega
      clear hkg
      go_wp2
      go_ret
      exact .inl ⟨fun j => by
        by_cases h : j < k
        · exact HALL.out j h
        · exact HOUT.out j (by omega), rfl, rfl⟩
    | succ g =>
      have hk : k < n := by omega
      have hkI : (k : Int) < (n : Int) := by omega
      obtain ⟨b1, o1, e1, hc1⟩ := HA.out.2 k (by rw [HN.out]; exact hk)
      subst e1
      have hub := HA.out.1 k
      obtain ⟨u, hu⟩ : ∃ u, co l k = u := ⟨_, rfl⟩
      rw [hu] at hc1 hub
      by_cases hu0 : u = 0
      · subst hu0
        have HU := Lib.hid hu
        clear hu
        go_wp2
        go_roundg g
        case measure => omega
        case rel => exact ⟨k + 1, by omega, by go_num, fun j h => by
          by_cases e : j = k
          · subst e; exact HU.out
          · exact HALL.out j (by omega), rfl⟩
      · have t : ((u : Int) != 0) = true := by simp; omega
        have HNO := Lib.hid (show ¬ Zer l from fun h => hu0 (by rw [← hu]; exact h k))
        clear hu0 hu
        go_wp2
        go_ret
        exact .inr ⟨HNO.out, rfl, rfl⟩

set_option maxHeartbeats 800000 in
theorem j_strip_no (n : Nat) (A : Option Addr) (ca : Nat) (w : World) (h : ¬ StripNum n) :
    Calls Try.prog 20 #[.slice A n ca] w (GivesE [] 1 w) := by
  unfold StripNum at h
  by_cases h1 : n < 1
  · have d1 : decide ((n : Int) < 1) = true := decide_eq_true (by omega)
    clear h
    go_enter Try.func20, Try.ntmps20
    go_wp2
    go_ret2
    exact ⟨_, rfl, sl_none _, Ext.refl w⟩
  have d1 : decide ((n : Int) < 1) = false := decide_eq_false (by omega)
  have d2 : decide (256 < (n : Int)) = true := decide_eq_true (by omega)
  clear h
  go_enter Try.func20, Try.ntmps20
  go_wp2
  go_ret2
  exact ⟨_, rfl, sl_none _, Ext.refl w⟩

set_option maxHeartbeats 1600000 in
set_option maxRecDepth 100000 in
theorem j_strip (b : List Nat) (A : Option Addr) (ca : Nat) (w : World) (hr : Rd w A b) (hca : b.length ≤ ca) (h : StripNum b.length) :
    Calls Try.prog 20 #[.slice A b.length ca] w (StripE b w) := by
  obtain ⟨h1, h2⟩ := h
  obtain ⟨b0, o0, e0, hc0⟩ := hr.2 0 (by omega)
  subst e0
  rw [Nat.add_zero] at hc0
  have hb0 := hr.1 0
  have hsm := hr.1
  obtain ⟨z, hz⟩ : ∃ z, co b 0 = z := ⟨_, rfl⟩
  rw [hz] at hc0 hb0
  have HYES := Lib.hid (fun B c w' => StripE.yes (w := w) (B := B) (c := c) (w' := w') hz)
  have HTL := Lib.hid (show Tail0 b ↔ z < b.length ∧ ∀ i, z < i → co b i = 0 from by unfold Tail0; rw [hz])
  have HR := Lib.hid hr
  have HSM := Lib.hid hsm
  have HOUT := Lib.hid (fun i (hi : b.length ≤ i) => Pol.co_out b i hi)
  generalize hn : b.length = n at *
  have HN := Lib.hid hn
  have hz256 : (z : Int) < 256 := by omega
  have d1 : decide ((n : Int) < 1) = false := decide_eq_false (by omega)
  have d2 : decide (256 < (n : Int)) = false := decide_eq_false (by omega)
  have hn0 : (0 : Int) < (n : Int) := by omega
  clear hr hsm hz hn
  obtain ⟨y, hy⟩ : ∃ y, 1 + z = y := ⟨_, rfl⟩
  have ey : IntKind.i64.wrap (1 + (z : Int)) = (y : Int) := by rw [IntWalk.i64_in _ (by omega)]; omega
  have ez : IntKind.i64.wrap (z : Int) = (z : Int) := IntWalk.i64_in _ (by omega)
  by_cases hzn : z < n
  · have d3 : decide (n < y) = false := decide_eq_false (by omega)
    obtain ⟨X, hX, hXr⟩ := run_cut_u8 (some ⟨b0, o0, none⟩) n ca 1 y (by omega) (by omega)
    rw [show y - 1 = z from by omega] at hX hXr
    have hX' : ∀ W, (Instr.slice 22 (.slice (some ⟨b0, o0, none⟩) n ca) (some (.int .i64 1)) (some (.int .i64 (y : Int))) none).run Try.prog W = .ok (.slice X z (ca - 1)) W := hX
    have HXR := Lib.hid (fun W (hW : Ext w W) => show Rd W X (tab z fun i => co b (i + 1)) from by
      have h := hXr W b (HR.out.ext hW) (by rw [HN.out]; omega)
      rwa [show (fun j => co b (1 + j)) = fun j => co b (j + 1) from by funext j; rw [Nat.add_comm]] at h)
    obtain ⟨cc, hcc⟩ : ∃ cc, ca - 1 = cc := ⟨_, rfl⟩
    rw [hcc] at hX'
    obtain ⟨Y, hY, hYr, _⟩ := run_rest_u8 (some ⟨b0, o0, none⟩) n ca y (by omega) (by omega)
    obtain ⟨ly, hly⟩ : ∃ ly, n - y = ly := ⟨_, rfl⟩
    obtain ⟨cy, hcy⟩ : ∃ cy, ca - y = cy := ⟨_, rfl⟩
    have hYr' := hYr w b HR.out HN.out
    rw [hly] at hY hYr'
    rw [hcy] at hY
    have hzr := j_zeros (tab ly fun j => co b (y + j)) Y cy w hYr' (by rw [tab_len]; omega)
    rw [tab_len] at hzr
    have HZR := Lib.hid hzr
    have HZE := Lib.hid (show Zer (tab ly fun j => co b (y + j)) ↔ ∀ i, z < i → co b i = 0 from ⟨fun h i hi => by
      by_cases hin : i < n
      · have h' := h (i - y)
        rw [co_tab, if_pos (by omega), show y + (i - y) = i from by omega] at h'
        exact h'
      · exact HOUT.out i (by omega), fun h i => by
      rw [co_tab]
      split
      · exact h _ (by omega)
      · rfl⟩)
    have HSX := Lib.hid (tab_sm z (fun i => co b (i + 1)) fun i _ => HSM.out _)
    clear hX hXr hcc hy hYr hYr' hly hcy hzr
    go_enter Try.func20, Try.ntmps20
    go_wp2_with fail
    refine HZR.out.mono ?_
    rintro e w1 (⟨hyes, rfl, rfl⟩ | ⟨hno, rfl, rfl⟩)
    · have HT := Lib.hid (HZE.out.1 hyes)
      clear hyes
      go_wp2_with (at_builtin; refine wpList_append_rd rfl (.const (.slice none 0 0)) (.tmp 31) rfl w.heap.size (.slice none 0 0) [] (tab z fun i => co b (i + 1)) rfl (Mine.nil _ _) X z cc rfl (tab_len _ _) (HXR.out _ (Ext.refl _)) (by rw [tab_len]; simp; omega) (by simp) ?_; intro v' w3 hown' hg' hat'; rw [List.nil_append] at hown'; have hx3 := (Ext.refl w).more hg' (fun r e => by simp [Value.ownBlock] at e); obtain ⟨Bv, cv, ev', hcv, hrv⟩ := hown'.slice HSX.out; rw [tab_len] at ev' hcv; subst ev'; have HX3 := Lib.hid hx3; have HRV := Lib.hid hrv; have HCV := Lib.hid hcv; clear hown' hg' hat' hx3 hrv hcv)
      go_ret2
      exact HYES.out _ _ _ hzn HT.out HCV.out HRV.out HX3.out
    · have HT := Lib.hid (show ¬ Tail0 b from fun h => hno (HZE.out.2 (HTL.out.1 h).2))
      clear hno
      go_wp2
      go_ret2
      exact StripE.no HT.out (Ext.refl _)
  · have d3 : decide (n < y) = true := decide_eq_true (by omega)
    have HNO := Lib.hid (show ¬ Tail0 b from fun h => hzn (HTL.out.1 h).1)
    clear hzn hy
    go_enter Try.func20, Try.ntmps20
    go_wp2
    go_ret2
    exact StripE.no HNO.out (Ext.refl _)
end Go.Proofs.Ytjibelmncbfbjaa

/-
  What Coins, position and dealable of layer 5 do. Conditions: none.
-/
namespace Go.Proofs.Ytjibelmncbfbjaa
open Go.RowKit
open Pol (co Sm px py Apart)

set_option maxHeartbeats 800000 in
theorem h_coins (b o : Int) (w : World) : Calls Try.prog 37 #[.int .i64 b, .int .i64 o] w (Hands (.int .i64 (cnum b o)) w) := by
  unfold cnum
  by_cases h1 : b < 1
  · rw [if_pos (.inl h1)]
    have d1 : decide (b < 1) = true := by simp; omega
    go_enter Try.func37, Try.ntmps37
    go_wp2
    go_ret
    exact ⟨rfl, 0, rfl⟩
  have d1 : decide (b < 1) = false := by simp; omega
  by_cases h2 : o < 2
  · rw [if_pos (.inr (.inl h2))]
    have d2 : decide (o < 2) = true := by simp; omega
    go_enter Try.func37, Try.ntmps37
    go_wp2
    go_ret
    exact ⟨rfl, 0, rfl⟩
  have d2 : decide (o < 2) = false := by simp; omega
  by_cases h3 : 4096 < b
  · rw [if_pos (.inr (.inr (.inl h3)))]
    have d3 : decide (4096 < b) = true := by simp; omega
    go_enter Try.func37, Try.ntmps37
    go_wp2
    go_ret
    exact ⟨rfl, 0, rfl⟩
  have d3 : decide (4096 < b) = false := by simp; omega
  by_cases h4 : 4096 < o
  · rw [if_pos (.inr (.inr (.inr h4)))]
    have d4 : decide (4096 < o) = true := by simp; omega
    go_enter Try.func37, Try.ntmps37
    go_wp2
    go_ret
    exact ⟨rfl, 0, rfl⟩
  have d4 : decide (4096 < o) = false := by simp; omega
  rw [if_neg (by omega)]
  have hm : b * (o - 1) ≤ 4096 * 4096 := Int.mul_le_mul (by omega) (by omega) (by omega) (by omega)
  have hm0 : 0 ≤ b * (o - 1) := Int.mul_nonneg (by omega) (by omega)
  obtain ⟨p, hp⟩ : ∃ p, b * (o - 1) = p := ⟨_, rfl⟩
  rw [hp] at hm hm0 ⊢
  have e1 : IntKind.i64.wrap (o - 1) = o - 1 := IntWalk.i64_in _ (by omega)
  have e2 : IntKind.i64.wrap (b * (o - 1)) = p := by rw [hp]; exact IntWalk.i64_in _ (by omega)
  clear hp
  go_enter Try.func37, Try.ntmps37
  go_wp2
  go_ret
  exact ⟨rfl, 0, rfl⟩
theorem h_pos (p : Nat) (w : World) (h : p < 200) : Calls Try.prog 52 #[.int .i64 (p : Int)] w (Hands (.int .u8 ((p + 1 : Nat) : Int)) w) := by
  have e1 : IntKind.u8.wrap ((p : Int) + 1) = (p : Int) + 1 := IntWalk.u8_in _ (by omega)
  go_enter Try.func52, Try.ntmps52
  go_wp2
  go_ret
  exact ⟨ret_int (by omega), 0, rfl⟩
/-- A secret of n bytes and k coins that can be dealt. -/
def DealN (n k : Nat) (o m : Int) : Prop := 1 ≤ o ∧ o ≤ m ∧ m ≤ 200 ∧ n ≤ 4096 ∧ (k : Int) = cnum n o
set_option maxHeartbeats 800000 in
theorem h_dealable_yes (n k : Nat) (o m : Int) (A B : Option Addr) (ca cb : Nat) (w : World) (h : DealN n k o m) :
    Calls Try.prog 33 #[.slice A n ca, .slice B k cb, .int .i64 o, .int .i64 m] w (Hands (.bool true) w) := by
  have HC := Lib.hid (h_coins (n : Int) o)
  obtain ⟨h1, h2, h3, h4, h5⟩ := h
  have d1 : decide (o < 1) = false := by simp; omega
  have d2 : decide (m < o) = false := by simp; omega
  have d3 : decide (200 < m) = false := by simp; omega
  have d4 : decide (4096 < (n : Int)) = false := by simp; omega
  obtain ⟨q, hq⟩ : ∃ q, cnum (n : Int) o = q := ⟨_, rfl⟩
  rw [hq] at HC h5
  have d5 : ((k : Int) == q) = true := by simp; omega
  clear hq h5
  go_enter Try.func33, Try.ntmps33
  go_wp2_with fail
  refine (HC.out w).mono ?_
  rintro e w1 ⟨rfl, q1, rfl⟩
  go_wp2
  go_ret
  exact ⟨rfl, q1, rfl⟩
set_option maxHeartbeats 1600000 in
theorem h_dealable_no (n k : Nat) (o m : Int) (A B : Option Addr) (ca cb : Nat) (w : World) (h : ¬ DealN n k o m) :
    Calls Try.prog 33 #[.slice A n ca, .slice B k cb, .int .i64 o, .int .i64 m] w (Hands (.bool false) w) := by
  have HC := Lib.hid (h_coins (n : Int) o)
  unfold DealN at h
  by_cases h1 : o < 1
  · have d1 : decide (o < 1) = true := by simp; omega
    clear h
    go_enter Try.func33, Try.ntmps33
    go_wp2
    go_ret
    exact ⟨rfl, 0, rfl⟩
  have d1 : decide (o < 1) = false := by simp; omega
  by_cases h2 : m < o
  · have d2 : decide (m < o) = true := by simp; omega
    clear h
    go_enter Try.func33, Try.ntmps33
    go_wp2
    go_ret
    exact ⟨rfl, 0, rfl⟩
  have d2 : decide (m < o) = false := by simp; omega
  by_cases h3 : 200 < m
  · have d3 : decide (200 < m) = true := by simp; omega
    clear h
    go_enter Try.func33, Try.ntmps33
    go_wp2
    go_ret
    exact ⟨rfl, 0, rfl⟩
  have d3 : decide (200 < m) = false := by simp; omega
  by_cases h4 : 4096 < n
  · have d4 : decide (4096 < (n : Int)) = true := by simp; omega
    clear h
    go_enter Try.func33, Try.ntmps33
    go_wp2
    go_ret
    exact ⟨rfl, 0, rfl⟩
  have d4 : decide (4096 < (n : Int)) = false := by simp; omega
  obtain ⟨q, hq⟩ : ∃ q, cnum (n : Int) o = q := ⟨_, rfl⟩
  rw [hq] at HC h
  have d5 : ((k : Int) == q) = false := beq_eq_false_iff_ne.2 (fun e => h ⟨by omega, by omega, by omega, by omega, e⟩)
  clear hq h
  go_enter Try.func33, Try.ntmps33
  go_wp2_with fail
  refine (HC.out w).mono ?_
  rintro e w1 ⟨rfl, q1, rfl⟩
  go_wp2
  go_ret
  exact ⟨rfl, q1, rfl⟩
end Go.Proofs.Ytjibelmncbfbjaa

/-
  An array of 200 marks in a block of a call's own. Conditions: none; no function is named here.
-/
namespace Go.Proofs.Ytjibelmncbfbjaa
open Go.RowKit

/-- Marks as cells. -/
def tb (S : Nat → Bool) : Array Value := Array.ofFn (n := 200) fun i => Value.bool (S i.val)
theorem tb_at (S : Nat → Bool) (i : Nat) (h : i < 200) : (tb S)[i]? = some (.bool (S i)) := by simp [tb, h]
theorem tb_set (S S' : Nat → Bool) (k : Nat) (v : Bool) (h : ∀ i, S' i = if i = k then v else S i) : (tb S).setIfInBounds k (.bool v) = tb S' := by
  apply Array.ext (by simp [tb])
  intro i h1 h2
  have hi : i < (tb S).size := by simpa using h1
  rw [Array.getElem_setIfInBounds hi]
  simp only [tb, Array.getElem_ofFn, h i]
  by_cases e : k = i
  · subst e; simp
  · rw [if_neg e, if_neg (fun h => e h.symm)]
theorem zero_marks : (∀ w, (zeroValue 69).run Try.prog w = .ok (.agg (tb fun _ => false)) w) ∧ (Try.prog.info? 69).map (·.size) = some 200 := by
  have e : tb (fun _ => false) = Array.replicate 200 (.bool false) := by
    apply Array.ext (by simp [tb])
    intro i h1 h2
    simp [tb]
  rw [e]
  exact zero_of_info (by kernel_rfl)
def TBlk (w : World) (g : Nat) (S : Nat → Bool) : Prop := w.heap[g]? = some (.cells (tb S) 69 (0, 0))
theorem TBlk.cell {w : World} {g : Nat} {S : Nat → Bool} (h : TBlk w g S) (i : Nat) (hi : i < 200) : w.cell? ⟨g, i, none⟩ = some (.bool (S i)) := by rw [cell_of_row w g i _ _ _ h, tb_at S i hi]
theorem TBlk.frozen {w : World} {g : Nat} {S : Nat → Bool} (h : TBlk w g S) (i : Nat) : w.frozen? ⟨g, i, none⟩ = false := frozen_of_row w g i _ _ h
theorem TBlk.store {w : World} {g : Nat} {S S' : Nat → Bool} (h : TBlk w g S) (k : Nat) (v : Bool) (hs : ∀ i, S' i = if i = k then v else S i) : TBlk (w.setCell ⟨g, k, none⟩ (.bool v)) g S' := by
  unfold TBlk
  rw [heap_setCell_same w g k _ _ _ h, tb_set S S' k v hs]
theorem TBlk.lt {w : World} {g : Nat} {S : Nat → Bool} (h : TBlk w g S) : g < w.heap.size := by
  rcases Nat.lt_or_ge g w.heap.size with hlt | hge
  · exact hlt
  · unfold TBlk at h; rw [Array.getElem?_eq_none hge] at h; cases h
theorem TBlk.ext {w w' : World} {g : Nat} {S : Nat → Bool} (h : TBlk w g S) (hx : Ext w w') : TBlk w' g S := (hx.below.block g h.lt).trans h
end Go.Proofs.Ytjibelmncbfbjaa

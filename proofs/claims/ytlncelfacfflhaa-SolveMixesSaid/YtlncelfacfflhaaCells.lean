/-
  Bytes in a block of a call's own, that are changed one by one; what stays while other blocks are written. Conditions: none.
-/
import Derived.Test.YtlncelfacfflhaaBase
import Derived.Test.YtlncelfacfflhaaTab
namespace Go.Proofs.Ytlncelfacfflhaa
open Go.RowKit
open Pol (co Sm trim)

/-- The first n cells of block g are the bytes F, and may be written. -/
def Cells (w : World) (g n : Nat) (F : Nat → Nat) : Prop := ∀ i, i < n → w.cell? ⟨g, i, none⟩ = some (.int .u8 ((F i : Nat) : Int)) ∧ w.frozen? ⟨g, i, none⟩ = false
theorem Blk.cells {w : World} {g n : Nat} {F : Nat → Nat} (h : Blk w g n F) : Cells w g n F := fun i hi => ⟨h.cell i hi, h.frozen i⟩
theorem Cells.drewN {w : World} {g n : Nat} {F : Nat → Nat} (h : Cells w g n F) (k : Nat) : Cells (w.drewN k) g n F := h
theorem Cells.congr {w : World} {g n : Nat} {F F' : Nat → Nat} (h : Cells w g n F) (hf : ∀ i, i < n → F i = F' i) : Cells w g n F' := fun i hi => ⟨by rw [(h i hi).1, hf i hi], (h i hi).2⟩
theorem Cells.store {w : World} {g n : Nat} {F : Nat → Nat} (h : Cells w g n F) (k v : Nat) : Cells (w.setCell ⟨g, k, none⟩ (.int .u8 (v : Int))) g n (upd F k v) := fun i hi => by
  refine ⟨?_, by rw [World.frozen?_setCell]; exact (h i hi).2⟩
  unfold upd
  by_cases e : i = k
  · subst e
    rw [if_pos rfl]
    exact World.cell?_setCell_same' _ _ _ (by rw [(h i hi).1]; rfl)
  · rw [if_neg e, World.cell?_setCell_other _ _ _ _ (fun h => e (by cases h; rfl))]
    exact (h i hi).1
theorem Cells.keep {w w' : World} {g n : Nat} {F : Nat → Nat} {row : Option Nat} (h : Cells w g n F) (hg : w.grownBy w' row) (hne : some g ≠ row) : Cells w' g n F := fun i hi =>
  ⟨hg.cell (h i hi).1 hne, (World.frozen?_of_block (a := ⟨g, i, none⟩) (hg.block g (block_lt_of_cell (h i hi).1) hne)).trans (h i hi).2⟩
theorem Cells.ext {w w' : World} {g n : Nat} {F : Nat → Nat} (h : Cells w g n F) (hx : Ext w w') : Cells w' g n F := fun i hi =>
  ⟨(hx.below.cell (p := ⟨g, i, none⟩) (block_lt_of_cell (h i hi).1)).trans (h i hi).1, (hx.below.frozen (p := ⟨g, i, none⟩) (block_lt_of_cell (h i hi).1)).trans (h i hi).2⟩
theorem Cells.reads {w : World} {g n : Nat} {F : Nat → Nat} (h : Cells w g n F) (hs : ∀ i, i < n → F i < 256) : Rd w (some ⟨g, 0, none⟩) (tab n F) :=
  ⟨tab_sm n F hs, fun i hi => ⟨g, 0, rfl, by
    rw [tab_len] at hi
    rw [Nat.zero_add, (h i hi).1, co_tab, if_pos hi]⟩⟩
theorem Rd.keep {w w' : World} {A : Option Addr} {l : List Nat} {row : Option Nat} (h : Rd w A l) (hg : w.grownBy w' row) (hne : ∀ b o, A = some ⟨b, o, none⟩ → 0 < l.length → some b ≠ row) : Rd w' A l :=
  ⟨h.1, fun i hi => by
    obtain ⟨b, o, e, hc⟩ := h.2 i hi
    exact ⟨b, o, e, hg.cell hc (hne b o e (by omega))⟩⟩
theorem IsField.keep {w w' : World} {b : Nat} {row : Option Nat} (h : IsField w b) (hg : w.grownBy w' row) (hne : some b ≠ row) : IsField w' b :=
  ⟨fun i hi => hg.cell (h.1 i hi) hne, fun x hx => hg.cell (h.2 x hx) hne⟩
theorem grown_set (w : World) (g o : Nat) (v : Value) : w.grownBy (w.setCell ⟨g, o, none⟩ v) (some g) :=
  ⟨rfl, rfl, rfl, by simp [World.setCell], fun k _ hk => Below.heap_setCell _ _ _ k (fun e => hk (by rw [e]))⟩
theorem grown_drewN (w : World) (n : Nat) (row : Option Nat) : w.grownBy (w.drewN n) row := ⟨rfl, rfl, rfl, Nat.le_refl _, fun _ _ _ => rfl⟩
theorem Ext.grown {w w' : World} (h : Ext w w') (row : Option Nat) : w.grownBy w' row := ⟨h.below.os, h.below.tape, h.below.output, h.below.size, fun k hk _ => h.below.block k hk⟩

/-- s[l:] of bytes, where the capacity goes on. -/
theorem run_from_u8 (g o len cap l : Nat) (h : l ≤ len) (hc : l < cap) (W : World) :
    (Instr.slice 27 (.slice (some ⟨g, o, none⟩) len cap) (some (.int .i64 (l : Int))) none none).run Try.prog W = .ok (.slice (some ⟨g, o + l, none⟩) (len - l) (cap - l)) W := by
  obtain ⟨i0, hi, hz0, hz1, hz2⟩ := info_parts u8_info
  have he : Try.prog.elem 27 = 5 := by kernel_rfl
  rw [run_slice_l W 27 _ len cap (by rw [he]; exact Try.underlying27) .i64 (l : Int) (by omega) (by omega), he]
  simp [sizeOf, typeInfo, hi, hz1, Result.andThen, sliced, addr_add]
  omega

/-- A slice of the call's own, as cells that may be written. -/
theorem Mine.cells {w : World} {base : Nat} {v : Value} {l : List Nat} (hm : Mine w base v l) : ∃ A c g, v = .slice A l.length c ∧ l.length ≤ c ∧ (0 < l.length → A = some ⟨g, 0, none⟩ ∧ base ≤ g) ∧ Cells w g l.length (co l) := by
  rcases hm.2 with ⟨rfl, hn⟩ | ⟨g, cap, cur, rfl, hb, hg, hnc, _, _, htake⟩
  · have : l = [] := List.eq_nil_of_length_eq_zero hn
    subst this
    exact ⟨none, 0, 0, rfl, Nat.le_refl _, fun h => absurd h (by simp), fun i hi => absurd hi (by simp)⟩
  · refine ⟨_, cap, g, rfl, hnc, fun _ => ⟨rfl, hb⟩, fun i hi => ⟨?_, frozen_of_row w g i cur _ hg⟩⟩
    rw [cell_of_row w g i cur _ _ hg, ← bv_at l i hi, ← htake, List.getElem?_take, if_pos (by omega)]
    simp
end Go.Proofs.Ytlncelfacfflhaa

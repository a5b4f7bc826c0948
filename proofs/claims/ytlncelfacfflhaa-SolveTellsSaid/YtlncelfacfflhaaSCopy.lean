/-
  What copied of layer 3 does: rows of the call's own, each in a block of its own, that read as the argument's. Conditions: rows of one length that is at least 1, no more than 2^16 elements and rows.
-/
import Derived.Test.YtlncelfacfflhaaMat
import Derived.Test.YtlncelfacfflhaaCopyL
namespace Go.Proofs.Ytlncelfacfflhaa
open Go.RowKit
open Pol (co Sm)

/-- make([][]byte, n). -/
theorem run_make_rows (n : Nat) (hn : n ≤ 1048576) (w : World) :
    (Instr.makeSlice 22 (.int .i64 (n : Int)) (.int .i64 (n : Int))).run Try.prog w = .ok (.slice (some ⟨w.heap.size, 0, none⟩) n n) (w.alloc (.cells (madeCells #[.slice none 0 0] n) 27)) := by
  obtain ⟨i0, hi, hz0, hz1, hz2⟩ := info_parts row_info
  have h := run_make (P := Try.prog) w 22 27 i0 (.slice none 0 0) Try.underlying22 hi hz0 .i64 .i64 n n (by omega) (by omega) (by rw [hz2]; omega) (by omega)
  simp only [Int.toNat_natCast, hz1, Nat.mul_one] at h
  rw [h]
  rfl
/-- Block g's first m cells are there and may be written. -/
def Room (w : World) (g m : Nat) : Prop := ∀ i, i < m → (∃ v, w.cell? ⟨g, i, none⟩ = some v) ∧ w.frozen? ⟨g, i, none⟩ = false
theorem Room.ext {w w' : World} {g m : Nat} (h : Room w g m) (hx : Ext w w') : Room w' g m := fun i hi => by
  obtain ⟨⟨v, hv⟩, hf⟩ := h i hi
  exact ⟨⟨v, (hx.below.cell (p := ⟨g, i, none⟩) (block_lt_of_cell hv)).trans hv⟩, (hx.below.frozen (p := ⟨g, i, none⟩) (block_lt_of_cell hv)).trans hf⟩
theorem Room.set {w : World} {g m : Nat} (h : Room w g m) (k : Nat) (u : Value) : Room (w.setCell ⟨g, k, none⟩ u) g m := fun i hi => by
  obtain ⟨⟨v, hv⟩, hf⟩ := h i hi
  refine ⟨?_, by rw [World.frozen?_setCell]; exact hf⟩
  by_cases e : i = k
  · subst e
    exact ⟨u, World.cell?_setCell_same' _ _ _ (by rw [hv]; rfl)⟩
  · exact ⟨v, (World.cell?_setCell_other _ _ _ _ (fun h => e (by cases h; rfl))).trans hv⟩
theorem room_made (w : World) (m : Nat) : Room (w.alloc (.cells (madeCells #[.slice none 0 0] m) 27)) w.heap.size m := fun i hi => by
  have hg := heap_alloc_new w (.cells (madeCells #[.slice none 0 0] m) 27)
  refine ⟨⟨.slice none 0 0, ?_⟩, frozen_of_row _ _ _ _ _ hg⟩
  rw [cell_of_row _ _ _ _ _ _ hg]
  simp [madeCells, Nat.mod_one, hi]
/-- A row more. -/
theorem Mat.grow {w w' : World} {g k N b c : Nat} {blk : Nat → Nat} {F : Nat → Nat → Nat} (h : Mat w g k N blk F) (hx : Ext (w.setCell ⟨g, k, none⟩ (.slice (some ⟨b, 0, none⟩) N c)) w') (hr : (∃ v, w.cell? ⟨g, k, none⟩ = some v) ∧ w.frozen? ⟨g, k, none⟩ = false)
    (hN : 0 < N) (hc : N ≤ c) (hb : w.heap.size ≤ b) (hB : Cells w' b N (F k)) : Mat w' g (k + 1) N (fun i => if i = k then b else blk i) F := by
  obtain ⟨⟨v, hv⟩, hf⟩ := hr
  have hg : g < w.heap.size := block_lt_of_cell hv
  have hgs : g < (w.setCell ⟨g, k, none⟩ (.slice (some ⟨b, 0, none⟩) N c)).heap.size := by simpa [World.setCell] using hg
  refine ⟨fun i hi => ?_, fun i hi => ?_, fun i j hi hj e => ?_, fun i hi => ?_⟩
  · by_cases e : i = k
    · subst e
      rw [if_pos rfl]
      exact ⟨c, (hx.below.cell (p := ⟨g, i, none⟩) hgs).trans (World.cell?_setCell_same' _ _ _ (by rw [hv]; rfl)), (hx.below.frozen (p := ⟨g, i, none⟩) hgs).trans (by rw [World.frozen?_setCell]; exact hf), hc⟩
    · rw [if_neg e]
      obtain ⟨c', h1, h2, h3⟩ := h.row i (by omega)
      exact ⟨c', (hx.below.cell (p := ⟨g, i, none⟩) hgs).trans ((World.cell?_setCell_other _ _ _ _ (fun h => e (by cases h; rfl))).trans h1), (hx.below.frozen (p := ⟨g, i, none⟩) hgs).trans (by rw [World.frozen?_setCell]; exact h2), h3⟩
  · by_cases e : i = k
    · subst e
      rw [if_pos rfl]
      exact hB
    · rw [if_neg e]
      exact ((h.has i (by omega)).keep (grown_set _ g k _) (fun e => h.off i (by omega) (by injection e))).ext hx
  · by_cases e1 : i = k
    · by_cases e2 : j = k
      · omega
      · rw [if_pos e1, if_neg e2] at e
        have := h.lt hN j (by omega)
        omega
    · by_cases e2 : j = k
      · rw [if_neg e1, if_pos e2] at e
        have := h.lt hN i (by omega)
        omega
      · rw [if_neg e1, if_neg e2] at e
        exact h.one i j (by omega) (by omega) e
  · by_cases e : i = k
    · rw [if_pos e]; omega
    · rw [if_neg e]; exact h.off i (by omega)

/-- Rows of the call's own. -/
def Copies (m N : Nat) (F : Nat → Nat → Nat) (w : World) (e : Ending) (w' : World) : Prop :=
  ∃ g c blk, e = .returned (.slice (some ⟨g, 0, none⟩) m c) ∧ m ≤ c ∧ Mat w' g m N blk F ∧ Ext w w' ∧ w.heap.size ≤ g ∧ ∀ i, i < m → w.heap.size ≤ blk i

set_option maxHeartbeats 800000 in
set_option maxRecDepth 100000 in
theorem s_copied (rows : List (List Nat)) (A : Option Addr) (c N : Nat) (w : World) (ha : RRd w A rows) (hl : rows.length ≤ 65536) (hlen : ∀ i, i < rows.length → (ro rows i).length = N) (hN0 : 0 < N) (hN : N ≤ 65536) :
    Calls Try.prog 25 #[.slice A rows.length c] w (Copies rows.length N (fun i => co (ro rows i)) w) := by
  generalize hn : rows.length = m at *
  have HA := Lib.hid ha
  have HN := Lib.hid hn
  have HLL := Lib.hid hlen
  clear ha hn hlen
  have hmk := fun W => run_make_rows m (by omega) W
  go_enter Try.func25, Try.ntmps25
  go_wp2
  clear hmk
  go_loopg [11] m (fun gh s wx => ∃ (k : Nat) (blk : Nat → Nat), k + gh = m ∧ s = .int .i64 (k : Int) ∧ Mat wx w.heap.size k N blk (fun i => co (ro rows i)) ∧ Room wx w.heap.size m ∧ Ext w wx ∧ ∀ i, i < k → w.heap.size ≤ blk i)
  case atStart => exact ⟨0, fun _ => 0, by omega, rfl, ⟨fun i hi => by omega, fun i hi => by omega, fun i j hi hj => by omega, fun i hi => by omega⟩, room_made w m, (Ext.refl w).alloc _, fun i hi => by omega⟩
  case round =>
    obtain ⟨k, blk, hkg, rfl, hmat, hroom, hx, hnew⟩ := hrel
    have HM := Lib.hid hmat
    have HRO := Lib.hid hroom
    have HX := Lib.hid hx
    have HNEW := Lib.hid hnew
    clear hmat hroom hx hnew
    cases gk with
    | zero =>
      obtain rfl : k = m := by omega
      clear hkg
      go_wp2
      go_ret
      exact ⟨_, _, blk, rfl, Nat.le_refl _, HM.out, HX.out, Nat.le_refl _, HNEW.out⟩
    | succ gh =>
      have hk : k < m := by omega
      have hkI : (k : Int) < (m : Int) := by omega
      obtain ⟨b, o, B, ck, rfl, hck, hlk, hrd⟩ := (HA.out.ext HX.out) k (by rw [HN.out]; exact hk)
      have hlr := HLL.out k hk
      rw [hlr] at hck hlk
      obtain ⟨⟨v0, hv0⟩, hf0⟩ := HRO.out k hk
      have hG : w.heap.size < wr.heap.size := block_lt_of_cell hv0
      have z1 : (wr.alloc (.cells (bt N fun _ => 0) 5)).cell? ⟨w.heap.size, k, none⟩ = some v0 := (((Ext.refl wr).alloc _).below.cell (p := ⟨w.heap.size, k, none⟩) hG).trans hv0
      have z2 : (wr.alloc (.cells (bt N fun _ => 0) 5)).frozen? ⟨w.heap.size, k, none⟩ = false := (((Ext.refl wr).alloc _).below.frozen (p := ⟨w.heap.size, k, none⟩) hG).trans hf0
      have z3 : ((wr.setCell ⟨w.heap.size, k, none⟩ (.slice (some ⟨wr.heap.size, 0, none⟩) N N)).alloc (.cells (bt N fun _ => 0) 5)).cell? ⟨w.heap.size, k, none⟩ = some (.slice (some ⟨wr.heap.size, 0, none⟩) N N) := (((Ext.refl _).alloc _).below.cell (p := ⟨w.heap.size, k, none⟩) (by simpa [World.setCell] using hG)).trans (World.cell?_setCell_same' _ _ _ (by rw [hv0]; rfl))
      have HE0 := Lib.hid (show Ext (wr.setCell ⟨w.heap.size, k, none⟩ (.slice (some ⟨wr.heap.size, 0, none⟩) N N)) ((wr.setCell ⟨w.heap.size, k, none⟩ (.slice (some ⟨wr.heap.size, 0, none⟩) N N)).alloc (.cells (bt N fun _ => 0) 5)) from (Ext.refl _).alloc _)
      have HBK := Lib.hid (show Blk ((wr.setCell ⟨w.heap.size, k, none⟩ (.slice (some ⟨wr.heap.size, 0, none⟩) N N)).alloc (.cells (bt N fun _ => 0) 5)) wr.heap.size N (fun _ => 0) from by
        have h := Blk.new (wr.setCell ⟨w.heap.size, k, none⟩ (.slice (some ⟨wr.heap.size, 0, none⟩) N N)) N (fun _ => 0)
        rwa [show (wr.setCell ⟨w.heap.size, k, none⟩ (.slice (some ⟨wr.heap.size, 0, none⟩) N N)).heap.size = wr.heap.size from by simp [World.setCell]] at h)
      have HRD := Lib.hid (show Rd ((wr.setCell ⟨w.heap.size, k, none⟩ (.slice (some ⟨wr.heap.size, 0, none⟩) N N)).alloc (.cells (bt N fun _ => 0) 5)) B (ro rows k) from by
        have h0 := HA.out k (by rw [HN.out]; exact hk)
        obtain ⟨b', o', B', c', e', hc', _, hr'⟩ := h0
        injection e' with e'
        injection e' with e1 e2
        subst e1; subst e2
        have hc2 := (HX.out.below.cell (p := ⟨b, o + k, none⟩) (block_lt_of_cell hc')).trans hc'
        rw [hck] at hc2
        injection hc2 with hc2
        injection hc2 with hB
        subst hB
        exact hr'.ext ((HX.out.setCell (p := ⟨w.heap.size, k, none⟩) (Nat.le_refl _) _).alloc _))
      have hsz : (wr.setCell ⟨w.heap.size, k, none⟩ (.slice (some ⟨wr.heap.size, 0, none⟩) N N)).heap.size ≤ wr.heap.size := by simp [World.setCell]
      have HSZ := Lib.hid hsz
      have HLR := Lib.hid hlr
      have hmk := fun W => run_make_u8 N (by omega) W
      clear hrd hv0 hf0 hsz hlr
      go_wp2_with (with_reducible refine wpList_copy_blk rfl (.tmp 25) (.tmp 26) rfl wr.heap.size N N (fun _ => 0) rfl HBK.out B (ro rows k) N ck rfl HLR.out HRD.out (Nat.le_refl _) (wr.setCell ⟨w.heap.size, k, none⟩ (.slice (some ⟨wr.heap.size, 0, none⟩) N N)) HE0.out HSZ.out ?_; intro w3 HK3 hx3)
      have hcl : Cells w3 wr.heap.size N (co (ro rows k)) := HK3.out.cells.congr (fun i hi => if_pos (by rw [HLR.out]; exact hi))
      have hm := HM.out.grow hx3 (HRO.out k hk) hN0 (Nat.le_refl _) (Nat.le_refl _) hcl
      have HM3 := Lib.hid hm
      have HR3 := Lib.hid ((HRO.out.set k (.slice (some ⟨wr.heap.size, 0, none⟩) N N)).ext hx3)
      have HX3 := Lib.hid ((HX.out.setCell (p := ⟨w.heap.size, k, none⟩) (Nat.le_refl _) (.slice (some ⟨wr.heap.size, 0, none⟩) N N)).trans hx3)
      clear hcl hm hx3 HK3 z1 z2 z3 hmk
      go_wp2
      go_roundg gh
      case measure => omega
      case rel => exact ⟨k + 1, _, by omega, by go_num, HM3.out, HR3.out, HX3.out, fun i hi => by
        by_cases e : i = k
        · rw [if_pos e]; omega
        · rw [if_neg e]; exact HNEW.out i (by omega)⟩
end Go.Proofs.Ytlncelfacfflhaa

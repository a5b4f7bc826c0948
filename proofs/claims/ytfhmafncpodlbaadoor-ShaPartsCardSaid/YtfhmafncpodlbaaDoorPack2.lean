/-
  Part 2 of the texts that the seat's proofs stand on; each part of it begins with its own sentence and conditions. Conditions: those that each theorem names.
-/
import Derived.Test.YtfhmafncpodlbaaDoorPack1
import Derived.Lib.SlBytesConst
import Derived.Laws.Strings
import Derived.DeepKeys
import Derived.Orders
import Derived.StillTail
import Derived.Lib.Hide
import Derived.ProofKit
import Derived.OpenShut
import Derived.Deep.Slices
import Derived.SizedLaws
import Derived.ChangeKeysEq
import Derived.Deep.Quiet
import Derived.Deep.QuietTactic
import Derived.BigQuiet
import Derived.KernelRfl

/-
  Slices of slices of bytes that read as a list of rows: what it means, that it stays while only new blocks are laid, and what append does with such slices of a call's own. Conditions: the lengths add up to no more than 2^40.
-/
namespace Go.Proofs.YtfhmafncpodlbaaDoor
open Go.RowKit
open Pol (co Sm)

/-- A row. -/
def ro (rows : List (List Nat)) (i : Nat) : List Nat := rows[i]?.getD []
theorem ro_append_left (a b : List (List Nat)) (i : Nat) (h : i < a.length) : ro (a ++ b) i = ro a i := by unfold ro; rw [List.getElem?_append_left h]
theorem ro_append_right (a b : List (List Nat)) (i : Nat) (h : a.length ≤ i) : ro (a ++ b) i = ro b (i - a.length) := by unfold ro; rw [List.getElem?_append_right h]
theorem ro_mem {rows : List (List Nat)} {r : List Nat} (h : r ∈ rows) : ∃ i, i < rows.length ∧ ro rows i = r := by
  obtain ⟨i, hi, e⟩ := List.mem_iff_getElem.1 h
  exact ⟨i, hi, by unfold ro; rw [List.getElem?_eq_getElem hi]; exact e⟩
theorem ro_in (rows : List (List Nat)) (i : Nat) (h : i < rows.length) : ro rows i ∈ rows := by
  unfold ro
  rw [List.getElem?_eq_getElem h]
  exact List.getElem_mem h
theorem ro_ext {a b : List (List Nat)} (hl : a.length = b.length) (h : ∀ i, i < a.length → ro a i = ro b i) : a = b := by
  apply List.ext_getElem hl
  intro i h1 h2
  have := h i h1
  unfold ro at this
  rw [List.getElem?_eq_getElem h1, List.getElem?_eq_getElem h2] at this
  exact this
/-- From address A on lie the rows. -/
def RRd (w : World) (A : Option Addr) (rows : List (List Nat)) : Prop :=
  ∀ i, i < rows.length → ∃ b o B c, A = some ⟨b, o, none⟩ ∧ w.cell? ⟨b, o + i, none⟩ = some (.slice B (ro rows i).length c) ∧ (ro rows i).length ≤ c ∧ Rd w B (ro rows i)
theorem RRd.ext {w w' : World} {A : Option Addr} {rows : List (List Nat)} (h : RRd w A rows) (hx : Ext w w') : RRd w' A rows := fun i hi => by
  obtain ⟨b, o, B, c, e, hc, hl, hr⟩ := h i hi
  exact ⟨b, o, B, c, e, (hx.below.cell (p := ⟨b, o + i, none⟩) (block_lt_of_cell hc)).trans hc, hl, hr.ext hx⟩
theorem RRd.nil (w : World) (A : Option Addr) : RRd w A [] := fun i hi => absurd hi (by simp)
theorem RRd.sm {w : World} {A : Option Addr} {rows : List (List Nat)} (h : RRd w A rows) : ∀ r ∈ rows, Sm r := fun r hr => by
  obtain ⟨i, hi, rfl⟩ := ro_mem hr
  obtain ⟨_, _, _, _, _, _, _, hrd⟩ := h i hi
  exact hrd.1
/-- Values that are slices of these rows. -/
def RowsV (w : World) (vs : List Value) (rows : List (List Nat)) : Prop := vs.length = rows.length ∧ ∀ i, i < rows.length → ∃ B c, vs[i]? = some (.slice B (ro rows i).length c) ∧ (ro rows i).length ≤ c ∧ Rd w B (ro rows i)
/-- None of them lies in a block. -/
def Far (vs : List Value) (row : Option Nat) : Prop := ∀ (i : Nat) (b o n c : Nat), vs[i]? = some (.slice (some ⟨b, o, none⟩) n c) → 0 < n → some b ≠ row
theorem RowsV.keep {w w' : World} {vs : List Value} {rows : List (List Nat)} {row : Option Nat} (h : RowsV w vs rows) (hg : w.grownBy w' row) (hf : Far vs row) : RowsV w' vs rows :=
  ⟨h.1, fun i hi => by
    obtain ⟨B, c, hv, hl, hr⟩ := h.2 i hi
    refine ⟨B, c, hv, hl, hr.1, fun j hj => ?_⟩
    obtain ⟨b, o, e, hc⟩ := hr.2 j hj
    exact ⟨b, o, e, hg.cell hc (hf i b o _ c (by rw [hv, e]) (by omega))⟩⟩
theorem RowsV.ext {w w' : World} {vs : List Value} {rows : List (List Nat)} (h : RowsV w vs rows) (hx : Ext w w') : RowsV w' vs rows :=
  ⟨h.1, fun i hi => by
    obtain ⟨B, c, hv, hl, hr⟩ := h.2 i hi
    exact ⟨B, c, hv, hl, hr.ext hx⟩⟩
theorem RowsV.append {w : World} {vs us : List Value} {rows more : List (List Nat)} (h : RowsV w vs rows) (k : RowsV w us more) : RowsV w (vs ++ us) (rows ++ more) :=
  ⟨by rw [List.length_append, List.length_append, h.1, k.1], fun i hi => by
    rw [List.length_append] at hi
    by_cases hl : i < rows.length
    · rw [ro_append_left _ _ _ hl, List.getElem?_append_left (by rw [h.1]; exact hl)]
      exact h.2 i hl
    · rw [ro_append_right _ _ _ (by omega), List.getElem?_append_right (by rw [h.1]; omega), h.1]
      exact k.2 (i - rows.length) (by omega)⟩
theorem RowsV.lt {w : World} {vs : List Value} {rows : List (List Nat)} (h : RowsV w vs rows) {i b o n c : Nat} (hi : vs[i]? = some (.slice (some ⟨b, o, none⟩) n c)) (hn : 0 < n) : b < w.heap.size := by
  have hil : i < rows.length := by rw [← h.1]; exact (List.getElem?_eq_some_iff.1 hi).1
  obtain ⟨B, c', hv, hl, hr⟩ := h.2 i hil
  rw [hv] at hi
  injection hi with hi
  injection hi with e1 e2 e3
  subst e2
  obtain ⟨b', o', e, hc⟩ := hr.2 0 hn
  rw [e] at e1
  injection e1 with e1
  injection e1 with e1 _
  rw [← e1]
  exact block_lt_of_cell hc
theorem RowsV.one {w : World} {vs : List Value} {rows : List (List Nat)} (h : RowsV w vs rows) : ∀ u ∈ vs, u.oneCell' = true := fun u hu => by
  obtain ⟨i, hi, e⟩ := List.mem_iff_getElem.1 hu
  obtain ⟨B, c, hv, _⟩ := h.2 i (by rw [← h.1]; exact hi)
  rw [List.getElem?_eq_getElem hi, e] at hv
  injection hv with hv
  rw [hv]
  rfl
theorem RRd.vals {w : World} {A : Option Addr} {rows : List (List Nat)} (h : RRd w A rows) : ∃ vs, RowsV w vs rows ∧ ∀ j u, vs[j]? = some u → ∃ b o, A = some ⟨b, o, none⟩ ∧ w.cell? ⟨b, o + j, none⟩ = some u := by
  rcases Nat.eq_zero_or_pos rows.length with h0 | h0
  · have : rows = [] := List.eq_nil_of_length_eq_zero h0
    subst this
    exact ⟨[], ⟨rfl, fun i hi => absurd hi (by simp)⟩, fun j u hj => by simp at hj⟩
  · obtain ⟨b, o, _, _, rfl, _⟩ := h 0 h0
    have hat : ∀ i, i < rows.length → ∃ B c, w.cell? ⟨b, o + i, none⟩ = some (.slice B (ro rows i).length c) ∧ (ro rows i).length ≤ c ∧ Rd w B (ro rows i) := fun i hi => by
      obtain ⟨b', o', B, c, e, hc, hl, hr⟩ := h i hi
      injection e with e
      injection e with e1 e2
      subst e1; subst e2
      exact ⟨B, c, hc, hl, hr⟩
    have hget : ∀ j, j < rows.length → ((List.range rows.length).map fun i => (w.cell? ⟨b, o + i, none⟩).getD undef)[j]? = some ((w.cell? ⟨b, o + j, none⟩).getD undef) := fun j hj => by
      rw [List.getElem?_map, List.getElem?_range hj]; rfl
    refine ⟨(List.range rows.length).map fun i => (w.cell? ⟨b, o + i, none⟩).getD undef, ⟨by simp, fun i hi => ?_⟩, fun j u hj => ⟨b, o, rfl, ?_⟩⟩
    · obtain ⟨B, c, hc, hl, hr⟩ := hat i hi
      exact ⟨B, c, by rw [hget i hi, hc]; rfl, hl, hr⟩
    · have hjl : j < rows.length := by
        have := (List.getElem?_eq_some_iff.1 hj).1
        simpa using this
      obtain ⟨B, c, hc, _⟩ := hat j hjl
      rw [hget j hjl, hc] at hj
      rw [hc]
      exact hj

theorem row_info : (Tryd.prog.info? 22).map (fun i => (i.zero, i.size, i.bytes)) = some (some (.slice none 0 0), 1, 24) := by kernel_rfl
/-- A slice of the call's own, of rows. -/
structure MineR (w : World) (base : Nat) (v : Value) (rows : List (List Nat)) : Prop where
  has : ∃ vs, w.ownsRow base 22 1 v rows.length vs ∧ RowsV w vs rows ∧ Far vs v.ownBlock
theorem MineR.nil (w : World) (base : Nat) : MineR w base (.slice none 0 0) [] := ⟨[], World.ownsRow_nil w base _ _, ⟨rfl, fun i hi => absurd hi (by simp)⟩, fun i b o n c h => by simp at h⟩
theorem mineR_empty (w : World) : MineR (w.alloc (.cells #[] 22)) w.heap.size (.slice (some ⟨w.heap.size, 0, none⟩) 0 0) [] :=
  ⟨[], World.ownsRow_lit w #[] 0 (Nat.le_refl _) (Nat.zero_le _) rfl, ⟨rfl, fun i hi => absurd hi (by simp)⟩, fun i b o n c h => by simp at h⟩
theorem MineR.slice {w : World} {base : Nat} {v : Value} {rows : List (List Nat)} (h : MineR w base v rows) : ∃ A c, v = .slice A rows.length c ∧ rows.length ≤ c ∧ RRd w A rows := by
  obtain ⟨vs, hown, hv, _⟩ := h.has
  rcases hown.2 with ⟨rfl, hn⟩ | ⟨g, cap, cur, rfl, _, hg, hnc, _, _, htake⟩
  · have : rows = [] := List.eq_nil_of_length_eq_zero hn
    subst this
    exact ⟨none, 0, rfl, Nat.le_refl _, RRd.nil _ _⟩
  · refine ⟨_, cap, rfl, hnc, fun i hi => ?_⟩
    obtain ⟨B, c, h1, h2, h3⟩ := hv.2 i hi
    refine ⟨g, 0, B, c, rfl, ?_, h2, h3⟩
    rw [Nat.zero_add, cell_of_row w g i cur _ _ hg, ← h1, ← htake, List.getElem?_take, if_pos (by omega)]
    simp
theorem MineR.block {w : World} {base : Nat} {v : Value} {rows : List (List Nat)} (h : MineR w base v rows) : ∀ k, v.ownBlock = some k → base ≤ k ∧ k < w.heap.size := fun k hk => by
  obtain ⟨vs, hown, _⟩ := h.has
  exact World.ownsRow.lt hown k hk
theorem MineR.ext {w w' : World} {base : Nat} {v : Value} {rows : List (List Nat)} (h : MineR w base v rows) (hx : Ext w w') : MineR w' base v rows := by
  obtain ⟨vs, hown, hv, hf⟩ := h.has
  refine ⟨vs, World.ownsRow.kept hown (row := none) ⟨hx.below.os, hx.below.tape, hx.below.output, hx.below.size, fun k hk _ => hx.below.block k hk⟩ (by
    cases hb : v.ownBlock with
    | none => exact .inl rfl
    | some k => exact .inr (by simp)), hv.ext hx, hf⟩
set_option maxRecDepth 100000 in
/-- Behind a write into another block of the call's own. -/
theorem run_append_rows (w : World) (base : Nat) (ty : TypeId) (v : Value) (rows more : List (List Nat)) (hown : MineR w base v rows) (A : Option Addr) (c : Nat) (hr : RRd w A more)
    (hfar : ∀ i, i < more.length → ∀ b o n c, (∃ b' o', A = some ⟨b', o', none⟩ ∧ w.cell? ⟨b', o' + i, none⟩ = some (.slice (some ⟨b, o, none⟩) n c)) → 0 < n → some b ≠ v.ownBlock)
    (hlen : rows.length + more.length ≤ 1048576) (hbase : base ≤ w.heap.size) :
    ∃ v' w', (Builtin.append_ #[28, 28] ty #[v, .slice A more.length c]).run Tryd.prog w = .ok v' w' ∧ MineR w' base v' (rows ++ more) ∧ w.grownBy w' v.ownBlock ∧ (v'.ownBlock = v.ownBlock ∨ v'.ownBlock = some w.heap.size) := by
  obtain ⟨i0, hi, hz0, hz1, hz2⟩ := info_parts row_info
  obtain ⟨vs, hv1, hv2, hv3⟩ := hown.has
  obtain ⟨us, hu1, hu2⟩ := hr.vals
  cases A with
  | none =>
    have hm : more = [] := by
      rcases Nat.eq_zero_or_pos more.length with h | h
      · exact List.eq_nil_of_length_eq_zero h
      · obtain ⟨_, _, _, _, e, _⟩ := hr 0 h; cases e
    subst hm
    refine ⟨v, w, ?_, by simpa using hown, ⟨rfl, rfl, rfl, Nat.le_refl _, fun _ _ _ => rfl⟩, .inl rfl⟩
    rcases hv1.2 with ⟨rfl, _⟩ | ⟨g, cap, cur, rfl, _, _, hnc, _⟩
    · simp [Builtin.append_, run_underlying Tryd.underlying28, sizeOf, typeInfo, hi, Builtin.lenOf, Builtin.firstCells]
    · simp [Builtin.append_, run_underlying Tryd.underlying28, sizeOf, typeInfo, hi, Builtin.lenOf, Builtin.firstCells, hnc, storeCells]
  | some a =>
    have hcells : ∀ j u, us[j]? = some u → w.cell? (a.add j) = some u := by
      intro j u hu
      obtain ⟨b, o, e, hc⟩ := hu2 j u hu
      injection e with e
      subst e
      rw [addr_add]
      exact hc
    obtain ⟨v', w', h1, h2, h3, _, h5⟩ := run_append_own_at (P := Tryd.prog) w base 28 ty 22 i0 (.slice none 0 0) 1 24 Tryd.underlying28 hi hz0 hz1 hz2 rfl (by omega) v rows.length vs hv1 a more.length c us (by rw [hu1.1, Nat.mul_one]) hcells hu1.one
      (by unfold maxLen; omega) (by omega) hbase
    have hfu : Far us v.ownBlock := fun i b o n c' hu hn => by
      obtain ⟨b', o', e, hc⟩ := hu2 i _ hu
      exact hfar i (by rw [← hu1.1]; exact (List.getElem?_eq_some_iff.1 hu).1) b o n c' ⟨b', o', e, hc⟩ hn
    refine ⟨v', w', h1, ⟨vs ++ us, by rw [List.length_append]; exact h2, (hv2.append hu1).keep h3 ?_, ?_⟩, h3, h5⟩
    · intro i b o n c' hx hn
      by_cases hl : i < vs.length
      · rw [List.getElem?_append_left hl] at hx
        exact hv3 i b o n c' hx hn
      · rw [List.getElem?_append_right (by omega)] at hx
        exact hfu _ b o n c' hx hn
    · intro i b o n c' hx hn
      rcases h5 with e | e
      · rw [e]
        by_cases hl : i < vs.length
        · rw [List.getElem?_append_left hl] at hx
          exact hv3 i b o n c' hx hn
        · rw [List.getElem?_append_right (by omega)] at hx
          exact hfu _ b o n c' hx hn
      · rw [e]
        have hb : b < w.heap.size := (hv2.append hu1).lt hx hn
        exact fun e' => by injection e' with e'; omega
/-- At the operation, for the walk. -/
theorem wpList_append_rows {ops : Array Oper} {rest : List Oper} {o : Oper} {a : Act} {w : World} {Q : Exit → Act → World → Prop} (hgd : o.guard = none) (s x : Operand)
    (ho : o.op = .call { callee := .builtin .append, args := #[s, x], argTypes := #[28, 28] })
    (base : Nat) (v : Value) (rows more : List (List Nat)) (hs : a.eval s = v) (hown : MineR w base v rows) (A : Option Addr) (n c : Nat) (hx : a.eval x = .slice A n c) (hn : more.length = n) (hr : RRd w A more)
    (hfar : ∀ i, i < more.length → ∀ b o n c, (∃ b' o', A = some ⟨b', o', none⟩ ∧ w.cell? ⟨b', o' + i, none⟩ = some (.slice (some ⟨b, o, none⟩) n c)) → 0 < n → some b ≠ v.ownBlock)
    (hlen : rows.length + more.length ≤ 1048576) (hbase : base ≤ w.heap.size)
    (h : ∀ v' w', MineR w' base v' (rows ++ more) → w.grownBy w' v.ownBlock → (v'.ownBlock = v.ownBlock ∨ v'.ownBlock = some w.heap.size) → wpList Tryd.prog ops Q rest (a.put o.dst v') w') :
    wpList Tryd.prog ops Q (o :: rest) a w := by
  subst hn
  refine wpList_plain hgd fun K hK => ?_
  obtain ⟨v', w', hrun, h2, h3, h4⟩ := run_append_rows w base o.type v rows more hown A c hr hfar hlen hbase
  unfold Oper.wp execOp
  simp only [ho, resolve, invoke, builtin, Sem.run_bind, Sem.run_pure, Result.andThen_ok, List.map_toArray, List.map_cons, List.map_nil, hs, hx, hrun]
  exact hK _ _ (h v' w' h2 h3 h4)
end Go.Proofs.YtfhmafncpodlbaaDoor

/-
  What the document's own Less of layer 10 does. Conditions: two digests.
-/
namespace Go.Proofs.YtfhmafncpodlbaaDoor
open Go.RowKit
open Pol (co Sm)

/-- A digest's cells. -/
def Dgc (c : Array Value) (l : List Nat) : Prop := c.size = 32 ∧ ∀ i, i < 32 → c[i]? = some (.int .u8 ((co l i : Nat) : Int))
structure TwoD (g h : Nat) (a b : List Nat) (w0 w : World) : Prop where
  ca : ∀ i, i < 32 → w.cell? ⟨g, i, none⟩ = some (.int .u8 ((co a i : Nat) : Int))
  cb : ∀ i, i < 32 → w.cell? ⟨h, i, none⟩ = some (.int .u8 ((co b i : Nat) : Int))
  x : Ext w0 w
theorem TwoD.drewN {g h : Nat} {a b : List Nat} {w0 w : World} (H : TwoD g h a b w0 w) (q : Nat) : TwoD g h a b w0 (w.drewN q) := ⟨H.ca, H.cb, H.x.drewN q⟩
theorem TwoD.start {c d : Array Value} {a b : List Nat} (w : World) (hc : Dgc c a) (hd : Dgc d b) (T U : TypeId) : TwoD w.heap.size (w.heap.size + 1) a b w ((w.alloc (.cells c T)).alloc (.cells d U)) := by
  have hx := (((Ext.refl w).alloc (.cells c T)).alloc (.cells d U))
  have h1 : ∀ i, i < 32 → (w.alloc (.cells c T)).cell? ⟨w.heap.size, i, none⟩ = some (.int .u8 ((co a i : Nat) : Int)) := fun i hi => by
    rw [cell_of_row _ _ _ _ _ _ (heap_alloc_new w _)]
    exact hc.2 i hi
  refine ⟨fun i hi => ?_, fun i hi => ?_, hx⟩
  · rw [World.cell?_alloc_lt _ _ _ (by simp)]
    exact h1 i hi
  · have e : w.heap.size + 1 = (w.alloc (.cells c T)).heap.size := by simp
    rw [e, cell_of_row _ _ _ _ _ _ (heap_alloc_new (w.alloc (.cells c T)) _)]
    exact hd.2 i hi

set_option maxHeartbeats 400000 in
theorem ref10_less (c d : Array Value) (a b : List Nat) (w : World) (hc : Dgc c a) (hd : Dgc d b) (ha : a.length = 32) (hb : b.length = 32) :
    Calls Tryd.prog 19 #[.agg c, .agg d] w (fun e w' => e = .returned (.bool (lss a b)) ∧ Ext w w') := by
  obtain ⟨g, hg⟩ : ∃ g, w.heap.size = g := ⟨_, rfl⟩
  obtain ⟨h, hh⟩ : ∃ h, g + 1 = h := ⟨_, rfl⟩
  have HS := Lib.hid (fun (T U : TypeId) => show TwoD g h a b w ((w.alloc (.cells c T)).alloc (.cells d U)) from by
    rw [← hh, ← hg]; exact TwoD.start w hc hd T U)
  go_enter Tryd.func19, Tryd.ntmps19

  go_wp2_with fail
  go_loopg [6] 32 (fun gk s6 wx => ∃ i : Nat, i + gk = 32 ∧ s6 = .int .i64 (i : Int) ∧ (∀ j, j < i → co a j = co b j) ∧ TwoD g h a b w wx)
  case atStart => exact ⟨0, by omega, rfl, by intro j hj; omega, HS.out _ _⟩
  case round =>
    obtain ⟨i, hig, rfl, hsame, h2⟩ := hrel
    cases gk with
    | zero =>
      obtain rfl : i = 32 := by omega
      have hab : a = b := by
        apply List.ext_getElem (by omega)
        intro j h1 h2
        have := hsame j (by omega)
        unfold co at this
        rw [List.getElem?_eq_getElem h1, List.getElem?_eq_getElem h2] at this
        exact this
      go_wp2
      go_ret
      exact ⟨by rw [lss_self]; rfl, h2.x⟩
    | succ gk =>
      have hiI : (i : Int) < 32 := by omega
      have h0I : (0 : Int) ≤ (i : Int) := by omega
      have hA := h2.ca i (by omega)
      have hB := h2.cb i (by omega)
      have hu := Tryd.underlying25
      obtain ⟨x, hx⟩ : ∃ x, co a i = x := ⟨_, rfl⟩
      obtain ⟨y, hy⟩ : ∃ y, co b i = y := ⟨_, rfl⟩
      rw [hx] at hA
      rw [hy] at hB
      go_wp2
      go_region
      by_cases hxy : x = y
      · have he : ((x : Int) != (y : Int)) = false := by rw [hxy]; simp
        rw [he]
        have H2 := Lib.hid (h2.drewN 1)
        have HIG := Lib.hid hig
        have HSM := Lib.hid (fun j (hj : j < i + 1) => show co a j = co b j from by
          by_cases e : j = i
          · rw [e, hx, hy, hxy]
          · exact hsame j (by omega))
        clear hsame h2 hig hx hy
        go_wp2
        go_roundg gk
        case measure => omega
        case rel => exact ⟨i + 1, by have := HIG.out; omega, by go_num, HSM.out, H2.out⟩
      · have he : ((x : Int) != (y : Int)) = true := by
          have : (x : Int) ≠ (y : Int) := by omega
          simpa using this
        rw [he]
        go_wp2
        go_region
        go_wp2
        go_ret
        refine ⟨?_, h2.x.drewN 2⟩
        rw [lss_at a b i (by omega) (by omega) hsame (by rw [hx, hy]; exact hxy), hx, hy]
        rfl
end Go.Proofs.YtfhmafncpodlbaaDoor

/-
  What layer 10's own functions are to do, as one statement; digests as text. Conditions: no more than 2^16 bytes.
-/
namespace Go.Proofs.YtfhmafncpodlbaaDoor
open Go.RowKit
open Pol (co Sm)

/-- A digit of sixteen; a digest's text. -/
def hxd (x : Nat) : UInt8 := if x < 10 then (48 + x).toUInt8 else (87 + x).toUInt8
def hxs : List Nat → List UInt8
  | [] => []
  | x :: l => hxd (x / 16) :: hxd (x % 16) :: hxs l
theorem hxs_len : ∀ l, (hxs l).length = 2 * l.length
  | [] => rfl
  | x :: l => by rw [hxs, List.length_cons, List.length_cons, hxs_len l, List.length_cons]; omega
theorem hxd_eq : ∀ x, x < 16 → ∀ y, y < 16 → (hxd x == hxd y) = decide (x = y) := by decide
theorem hxd_lt : ∀ x, x < 16 → ∀ y, y < 16 → (decide (hxd x < hxd y)) = decide (x < y) := by decide
theorem hxs_inj : ∀ a b : List Nat, Sm a → Sm b → hxs a = hxs b → a = b
  | [], [], _, _, _ => rfl
  | [], _ :: _, _, _, h => by cases h
  | _ :: _, [], _, _, h => by cases h
  | x :: a, y :: b, ha, hb, h => by
    rw [hxs, hxs, List.cons.injEq, List.cons.injEq] at h
    have hx := sm_head ha
    have hy := sm_head hb
    have h1 := hxd_eq (x / 16) (by omega) (y / 16) (by omega)
    have h2 := hxd_eq (x % 16) (by omega) (y % 16) (by omega)
    rw [h.1, beq_self_eq_true] at h1
    rw [h.2.1, beq_self_eq_true] at h2
    have e1 := of_decide_eq_true h1.symm
    have e2 := of_decide_eq_true h2.symm
    rw [show x = y by omega, hxs_inj a b (sm_tail ha) (sm_tail hb) h.2.2]
theorem hxs_less : ∀ a b : List Nat, a.length = b.length → Sm a → Sm b → Op.bytesLess (hxs a) (hxs b) = lss a b
  | [], [], _, _, _ => rfl
  | [], _ :: _, h, _, _ => by simp at h
  | _ :: _, [], h, _, _ => by simp at h
  | x :: a, y :: b, hl, ha, hb => by
    have ih := hxs_less a b (by simpa using hl) (sm_tail ha) (sm_tail hb)
    have hx := sm_head ha
    have hy := sm_head hb
    have h1 := hxd_eq (x / 16) (by omega) (y / 16) (by omega)
    have h2 := hxd_eq (x % 16) (by omega) (y % 16) (by omega)
    have h3 := hxd_lt (x / 16) (by omega) (y / 16) (by omega)
    have h4 := hxd_lt (x % 16) (by omega) (y % 16) (by omega)
    rw [hxs, hxs, Op.bytesLess, Op.bytesLess, ih, h1, h2, h3, h4, lss]
    by_cases e : x = y
    · subst e
      simp
    · rw [if_neg e]
      by_cases e1 : x / 16 = y / 16
      · have e2 : x % 16 ≠ y % 16 := fun h => e (by omega)
        rw [decide_eq_false (show ¬ x / 16 < y / 16 by omega), decide_eq_true e1, decide_eq_false e2, Bool.false_or, Bool.true_and, Bool.false_and, Bool.or_false]
        by_cases h : x % 16 < y % 16
        · rw [decide_eq_true h, decide_eq_true (show x < y by omega)]
        · rw [decide_eq_false h, decide_eq_false (show ¬ x < y by omega)]
      · rw [decide_eq_false e1, Bool.false_and, Bool.or_false]
        by_cases h : x / 16 < y / 16
        · rw [decide_eq_true h, decide_eq_true (show x < y by omega)]
        · rw [decide_eq_false h, decide_eq_false (show ¬ x < y by omega)]
def DgS (l : List Nat) (w : World) (e : Ending) (w' : World) : Prop := ∃ c, e = .returned (.agg c) ∧ Dgc c l ∧ Ext w w'
def hxb (l : List Nat) : ByteArray := ⟨(hxs l).toArray⟩
theorem hxb_list (l : List Nat) : (hxb l).toList = hxs l := by rw [ByteArray.toList_eq]; rfl
def HexS (l : List Nat) (w : World) (e : Ending) (w' : World) : Prop := Tells (.string (hxb l)) w e w'
structure ShaSaid : Prop where
  of : ∀ (b : List Nat) (A : Option Addr) (c : Nat) (w : World), GL w → Rd w A b → b.length ≤ c → b.length ≤ 65536 → Calls Tryd.prog 10 #[.slice A b.length c] w (DgS (sha b) w)
  parts : ∀ (rows : List (List Nat)) (A : Option Addr) (c : Nat) (w : World), GL w → RRd w A rows → rows.length ≤ c → rows.length ≤ 1024 → (∀ i, i < rows.length → (ro rows i).length ≤ 1024) → (jn rows).length ≤ 65536 →
    Calls Tryd.prog 14 #[.slice A rows.length c] w (DgS (sha (jn rows)) w)
  hex : ∀ (c : Array Value) (d : List Nat) (w : World), Dgc c d → d.length = 32 → Sm d → Calls Tryd.prog 17 #[.agg c] w (HexS d w)
  less : ∀ (c d : Array Value) (a b : List Nat) (w : World), Dgc c a → Dgc d b → a.length = 32 → b.length = 32 → Sm a → Sm b → Calls Tryd.prog 18 #[.agg c, .agg d] w (Tells (.bool (lss a b)) w)
end Go.Proofs.YtfhmafncpodlbaaDoor

/-
  Two digests are compared byte by byte. Conditions: none; no function is named here.
-/
namespace Go.Proofs.YtfhmafncpodlbaaDoor
open Go.RowKit
open Pol (co Sm)

theorem mapM_some {α β : Type} {F : α → Option β} {G : α → β} : ∀ (l : List α), (∀ x ∈ l, F x = some (G x)) → l.mapM F = some (l.map G)
  | [], _ => rfl
  | x :: l, h => by
    rw [List.mapM_cons, h x (by simp), mapM_some l (fun y hy => h y (by simp [hy]))]
    rfl
theorem drop_one (l : List Value) (i : Nat) (h : i < l.length) : (l.drop i).take 1 = [l[i]] := by
  rw [List.drop_eq_getElem_cons h]; rfl
theorem cells32 : Tryd.prog.cellsOf 25 = 32 := by kernel_rfl
theorem cells_u8 : Tryd.prog.cellsOf 5 = 1 := by kernel_rfl
theorem lit_u8 (n : Nat) (h : n < 256) (d : Nat) : Tryd.prog.keyLits (d + 1) 5 [.int .u8 (n : Int)] = some [.int .u8 (n : Int)] := by
  have hw : (Lit.int .u8 (n : Int)).wf = true := by
    simp [Lit.wf, IntKind.min, IntKind.max, IntKind.signed, IntKind.bits]
    omega
  simp [Program.keyLits, Tryd.underlying5, hw]
theorem lits32 (f : Nat → Nat) (hf : ∀ i, i < 32 → f i < 256) : Tryd.prog.keyLits 2 25 (bt 32 f).toList = some ((List.range 32).map fun i => [Lit.int .u8 ((f i : Nat) : Int)]).flatten := by
  have hl : (bt 32 f).toList.length = 32 := by simp [bt_size]
  have hm : (List.range 32).mapM (fun i => Tryd.prog.keyLits 1 5 (((bt 32 f).toList.drop (i * 1)).take 1)) = some ((List.range 32).map fun i => [Lit.int .u8 ((f i : Nat) : Int)]) := mapM_some _ fun i hi => by
    have hi := List.mem_range.1 hi
    rw [Nat.mul_one, drop_one _ i (by rw [hl]; exact hi), show (bt 32 f).toList[i]'(by rw [hl]; exact hi) = .int .u8 ((f i : Nat) : Int) from by
      have h := bt_at 32 f i hi
      rw [← Option.some_inj, ← List.getElem?_eq_getElem, ← h]
      simp]
    exact lit_u8 _ (hf i hi) 0
  unfold Program.keyLits
  rw [Tryd.underlying25]
  simp only [cells32, cells_u8, hl, if_true, hm, Option.map_some]
theorem flat_inj (f g : Nat → Nat) : ∀ n, ((List.range n).map fun i => [Lit.int .u8 ((f i : Nat) : Int)]).flatten = ((List.range n).map fun i => [Lit.int .u8 ((g i : Nat) : Int)]).flatten ↔ ∀ i, i < n → f i = g i := fun n => by
  have e : ∀ h : Nat → Nat, ((List.range n).map fun i => [Lit.int .u8 ((h i : Nat) : Int)]).flatten = (List.range n).map fun i => Lit.int .u8 ((h i : Nat) : Int) := fun h => by
    induction (List.range n) with
    | nil => rfl
    | cons x l ih => simp only [List.map_cons, List.flatten_cons, ih]; rfl
  rw [e, e]
  constructor
  · intro h i hi
    have h1 := congrArg (fun l => l[i]?) h
    simp only [List.getElem?_map, List.getElem?_range hi, Option.map_some, Option.some.injEq, Lit.int.injEq, true_and] at h1
    omega
  · intro h
    exact List.map_congr_left fun i hi => by rw [h i (List.mem_range.1 hi)]
theorem eq32 (f g : Nat → Nat) (hf : ∀ i, i < 32 → f i < 256) (hg : ∀ i, i < 32 → g i < 256) (w : World) : ∃ r : Bool, (Op.equalIn 10000 25 (.agg (bt 32 f)) (.agg (bt 32 g))).run Tryd.prog w = .ok r w ∧ (r = true ↔ ∀ i, i < 32 → f i = g i) := by
  have hk : Tryd.prog.keyTypeAt 2 25 = true := by kernel_rfl
  have hform : ∀ h : Nat → Nat, (Value.agg (bt 32 h)).formed Tryd.prog 25 = true := fun h => by
    simp [Value.formed, Tryd.underlying25, bt_size, cells32]
  obtain ⟨r, h1, h2⟩ := run_equalIn_deep 9998 2 25 hk w 2 2 (.agg (bt 32 f)) (.agg (bt 32 g)) _ _ (hform f) (hform g) (lits32 f hf) (lits32 g hg)
  exact ⟨r, h1, h2.trans (flat_inj f g 32)⟩
theorem eq32_same (f : Nat → Nat) (hf : ∀ i, i < 32 → f i < 256) (w : World) : (Op.equalIn 10000 25 (.agg (bt 32 f)) (.agg (bt 32 f))).run Tryd.prog w = .ok true w := by
  obtain ⟨r, h1, h2⟩ := eq32 f f hf hf w
  rw [h1, h2.2 (fun _ _ => rfl)]
end Go.Proofs.YtfhmafncpodlbaaDoor

/-
  Blocks that hold a digest: thirty-two bytes as a function of the place. Conditions: none; no function is named here.
-/
namespace Go.Proofs.YtfhmafncpodlbaaDoor
open Go.RowKit
open Pol (co Sm)

/-! ### Digests -/
/-- Thirty-two bytes, as far as they go. -/
def dig (s : List Nat) : List Nat := tab 32 (co s)
theorem dig_len (s : List Nat) : (dig s).length = 32 := tab_len _ _
theorem dig_sm {s : List Nat} (h : Sm s) : Sm (dig s) := tab_sm _ _ fun i _ => h i
def DBlk (w : World) (g : Nat) (f : Nat → Nat) : Prop := w.heap[g]? = some (.cells (bt 32 f) 25 (0, 0))
theorem DBlk.cell {w : World} {g : Nat} {f : Nat → Nat} (h : DBlk w g f) (i : Nat) (hi : i < 32) : w.cell? ⟨g, i, none⟩ = some (.int .u8 ((f i : Nat) : Int)) := by rw [cell_of_row w g i _ _ _ h, bt_at 32 f i hi]
theorem DBlk.frozen {w : World} {g : Nat} {f : Nat → Nat} (h : DBlk w g f) (i : Nat) : w.frozen? ⟨g, i, none⟩ = false := frozen_of_row w g i _ _ h
theorem DBlk.store {w : World} {g : Nat} {f : Nat → Nat} (h : DBlk w g f) (k v : Nat) : DBlk (w.setCell ⟨g, k, none⟩ (.int .u8 (v : Int))) g (upd f k v) := by
  unfold DBlk
  rw [heap_setCell_same w g k _ _ _ h, bt_set]
theorem DBlk.congr {w : World} {g : Nat} {f f' : Nat → Nat} (h : DBlk w g f) (hf : ∀ i, i < 32 → f i = f' i) : DBlk w g f' := by
  have e : bt 32 f = bt 32 f' := by
    apply Array.ext (by simp [bt])
    intro i h1 h2
    have hi : i < 32 := by simpa [bt] using h1
    simp [bt, hf i hi]
  unfold DBlk
  rw [← e]
  exact h
theorem zero_digest : (∀ w, (zeroValue 25).run Tryd.prog w = .ok (.agg (bt 32 fun _ => 0)) w) ∧ (Tryd.prog.info? 25).map (·.size) = some 32 := by
  have e : bt 32 (fun _ => 0) = Array.replicate 32 (.int .u8 0) := by
    apply Array.ext (by simp [bt])
    intro i h1 h2
    simp [bt]
  rw [e]
  exact zero_of_info (by kernel_rfl)
theorem bt_one (n : Nat) (f : Nat → Nat) : (bt n f).all (·.oneCell') = true := by
  rw [Array.all_eq_true]; intro i h; simp [bt, Value.oneCell']
theorem bt_dig (s : List Nat) : bt 32 (co s) = (bv (dig s)).toArray := by
  apply Array.ext
  · rw [bt_size]; simp [bv_len, dig_len]
  · intro i h1 h2
    rw [bt_size] at h1
    rw [← Option.some_inj, ← Array.getElem?_eq_getElem, ← Array.getElem?_eq_getElem, bt_at _ _ _ h1, List.getElem?_toArray, bv_at _ _ (by rw [dig_len]; exact h1)]
    unfold dig
    rw [co_tab, if_pos h1]

theorem info32 (f : Nat → Nat) : (Tryd.prog.info? 25).map (·.size) = some (bt 32 f).size := by rw [bt_size]; exact zero_digest.2
theorem load32 (w : World) (g : Nat) (f : Nat → Nat) (hg : DBlk w g f) : (Instr.loadAt 25 (.pointer (some ⟨g, 0, none⟩))).run Tryd.prog w = .ok (.agg (bt 32 f)) w :=
  run_load_all w g 25 _ 32 5 Tryd.underlying25 hg (info32 f)
theorem store32 (w : World) (g : Nat) (f f' : Nat → Nat) (hg : DBlk w g f) : (storeCells ⟨g, 0, none⟩ (bt 32 f').toList).run Tryd.prog w = .ok () (w.setRow g (bt 32 f')) := by
  have h := run_storeCells_from (P := Tryd.prog) g 25 (bt 32 f').toList 0 (bt 32 f) w hg (by simp [bt_size]) (fun v hv => (Array.all_eq_true_iff_forall_mem.1 (bt_one 32 f')) v (by simpa using hv))
  simpa using h
end Go.Proofs.YtfhmafncpodlbaaDoor

/-
  The laws' first call, and the law ShaHexes, walked, under what layer 10's functions are to do. Conditions: none.
-/
namespace Go.Proofs.YtfhmafncpodlbaaDoor
open Go.RowKit
open Pol (co Sm)

theorem Dgc.is {c : Array Value} {l : List Nat} (h : Dgc c l) : c = bt 32 (co l) := by
  apply Array.ext
  · rw [h.1, bt_size]
  · intro i h1 h2
    have hi : i < 32 := by rw [← h.1]; exact h1
    rw [← Option.some_inj, ← Array.getElem?_eq_getElem, ← Array.getElem?_eq_getElem, h.2 i hi, bt_at 32 _ i hi]
theorem bt_dgc (l : List Nat) : Dgc (bt 32 (co l)) l := ⟨bt_size _ _, fun i hi => bt_at 32 _ i hi⟩
theorem co_ext32 {a b : List Nat} (ha : a.length = 32) (hb : b.length = 32) (h : ∀ i, i < 32 → co a i = co b i) : a = b := by
  apply List.ext_getElem (by omega)
  intro j h1 h2
  have := h j (by omega)
  unfold co at this
  rw [List.getElem?_eq_getElem h1, List.getElem?_eq_getElem h2] at this
  exact this
/-- Two digests compared. -/
theorem eq_dgc {c d : Array Value} {a b : List Nat} (hc : Dgc c a) (hd : Dgc d b) (ha : a.length = 32) (hb : b.length = 32) (hsa : Sm a) (hsb : Sm b) (W : World) : (Op.equalIn 10000 25 (.agg c) (.agg d)).run Tryd.prog W = .ok (decide (a = b)) W := by
  obtain ⟨r, h1, h2⟩ := eq32 (co a) (co b) (fun i _ => hsa i) (fun i _ => hsb i) W
  rw [hc.is, hd.is, h1]
  by_cases e : a = b
  · rw [decide_eq_true e, h2.2 (fun i _ => by rw [e])]
  · have hr : r = false := by
      cases r
      · rfl
      · exact absurd (co_ext32 ha hb (h2.1 rfl)) e
    rw [decide_eq_false e, hr]
theorem run_eq_dgc {c d : Array Value} {a b : List Nat} (hc : Dgc c a) (hd : Dgc d b) (ha : a.length = 32) (hb : b.length = 32) (hsa : Sm a) (hsb : Sm b) (W : World) : (binOp .eql 25 (.agg c) (.agg d)).run Tryd.prog W = .ok (.bool (decide (a = b))) W := by
  simp only [binOp]
  simp [Op.equal, Op.maxDepth, eq_dgc hc hd ha hb hsa hsb W]
def AfterH (u w : World) : Prop := Ext u w
def one32 (x : Nat) : List Nat := x :: List.replicate 31 0
theorem one32_len (x : Nat) : (one32 x).length = 32 := rfl
theorem rd_mark10 (w : World) (l : List Nat) (fr : Nat × Nat) (h : Sm l) : Rd (w.alloc (.cells (bv l).toArray 5 fr)) (some ⟨w.heap.size, 0, none⟩) l :=
  ⟨h, fun i hi => ⟨w.heap.size, 0, rfl, by
    rw [cell_of_row _ _ _ _ _ _ (heap_alloc_new w _), Nat.zero_add]
    simpa using bv_at l i hi⟩⟩
theorem bv_dgc {l : List Nat} (h : l.length = 32) : Dgc (bv l).toArray l := ⟨by simp [bv_len, h], fun i hi => by rw [List.getElem?_toArray]; exact bv_at l i (by omega)⟩
def shabc : List Nat := sha [97, 98, 99]
theorem shabc_is : shabc = [186, 120, 22, 191, 143, 1, 207, 234, 65, 65, 64, 222, 93, 174, 34, 35, 176, 3, 97, 163, 150, 23, 122, 156, 180, 16, 255, 97, 242, 0, 21, 173] := sha_abc

set_option maxHeartbeats 800000 in
set_option maxRecDepth 100000 in
theorem awake10 (C : ShaSaid) (w : World) (hgl : GL w) : Calls Tryd.prog 9 #[] w (Holds w) := by
  have HO := Lib.hid (fun W (h : Ext w W) => C.of [97, 98, 99] (some ⟨W.heap.size, 0, none⟩) 3 (W.alloc (.cells (bv [97, 98, 99]).toArray 5 (3, 4))) ((hgl.ext h).ext ((Ext.refl _).alloc _)) (rd_mark10 W _ (3, 4) (Pol.co_lt_of (by decide))) (by decide) (by decide))
  have HH := Lib.hid (fun c W (h : Dgc c shabc) => C.hex c shabc W h (sha_len _) (sha_sm _))
  have HL := Lib.hid (fun W => show Calls Tryd.prog 18 #[.agg #[.int .u8 1, .int .u8 0, .int .u8 0, .int .u8 0, .int .u8 0, .int .u8 0, .int .u8 0, .int .u8 0, .int .u8 0, .int .u8 0, .int .u8 0, .int .u8 0, .int .u8 0, .int .u8 0, .int .u8 0, .int .u8 0, .int .u8 0, .int .u8 0, .int .u8 0, .int .u8 0, .int .u8 0, .int .u8 0, .int .u8 0, .int .u8 0, .int .u8 0, .int .u8 0, .int .u8 0, .int .u8 0, .int .u8 0, .int .u8 0, .int .u8 0, .int .u8 0], .agg #[.int .u8 2, .int .u8 0, .int .u8 0, .int .u8 0, .int .u8 0, .int .u8 0, .int .u8 0, .int .u8 0, .int .u8 0, .int .u8 0, .int .u8 0, .int .u8 0, .int .u8 0, .int .u8 0, .int .u8 0, .int .u8 0, .int .u8 0, .int .u8 0, .int .u8 0, .int .u8 0, .int .u8 0, .int .u8 0, .int .u8 0, .int .u8 0, .int .u8 0, .int .u8 0, .int .u8 0, .int .u8 0, .int .u8 0, .int .u8 0, .int .u8 0, .int .u8 0]] W (Tells (.bool true) W) from
    C.less (bv (one32 1)).toArray (bv (one32 2)).toArray (one32 1) (one32 2) W (bv_dgc rfl) (bv_dgc rfl) rfl rfl (Pol.co_lt_of (by decide)) (Pol.co_lt_of (by decide)))
  rw [show sha [97, 98, 99] = shabc from rfl] at HO
  have HT := Lib.hid (show hxs shabc = hxs [186, 120, 22, 191, 143, 1, 207, 234, 65, 65, 64, 222, 93, 174, 34, 35, 176, 3, 97, 163, 150, 23, 122, 156, 180, 16, 255, 97, 242, 0, 21, 173] from by rw [shabc_is])
  have kc := fun (w : World) (C : Array Value) (n c : Nat) => Lib.run_convert_bytes_const (P := Tryd.prog) w 22 5 C n c Tryd.underlying22 Tryd.underlying5
  clear C hgl
  go_enter Tryd.func9, Tryd.ntmps9
  go_wp2_with fail
  refine (HO.out _ (Ext.refl w)).mono ?_
  rintro e w1 ⟨c1, rfl, hc1, hx1⟩
  have HX1 := Lib.hid (((Ext.refl w).alloc (.cells (bv [97, 98, 99]).toArray 5 (3, 4))).trans hx1)
  have HHC := Lib.hid (fun W => HH.out c1 W hc1)
  clear hc1 hx1
  go_wp2_with fail
  refine (HHC.out _).mono ?_
  rintro e w2 ⟨rfl, hx2⟩
  have HX2 := Lib.hid (HX1.out.trans hx2)
  obtain ⟨s, hse⟩ : ∃ s, hxb shabc = s := ⟨_, rfl⟩
  have hs : s.toList = hxs [186, 120, 22, 191, 143, 1, 207, 234, 65, 65, 64, 222, 93, 174, 34, 35, 176, 3, 97, 163, 150, 23, 122, 156, 180, 16, 255, 97, 242, 0, 21, 173] := by rw [← hse, hxb_list]; exact HT.out
  rw [hse]
  clear hx2 hse
  go_wp2_with fail
  refine (HL.out _).mono ?_
  rintro e w3 ⟨rfl, hx3⟩
  have HX3 := Lib.hid (HX2.out.trans hx3)
  clear hx3
  go_wp2
  go_ret
  exact ⟨rfl, HX3.out⟩

set_option maxHeartbeats 800000 in
set_option maxRecDepth 100000 in
theorem hexes10_walk (C : ShaSaid) (c d : Array Value) (a b : List Nat) (w : World) (hgl : GL w) (hc : Dgc c a) (hd : Dgc d b) (ha : a.length = 32) (hb : b.length = 32) (hsa : Sm a) (hsb : Sm b) :
    Calls Tryd.prog 8 #[.agg c, .agg d] w (Holds w) := by
  have HAW := Lib.hid (fun W (h : Ext w W) => awake10 C W (hgl.ext h))
  have HHA := Lib.hid (fun W => C.hex c a W hc ha hsa)
  have HHB := Lib.hid (fun W => C.hex d b W hd hb hsb)
  have HEQ := Lib.hid (fun W => run_eq_dgc hc hd ha hb hsa hsb W)
  have HIJ := Lib.hid (show hxs a = hxs b ↔ a = b from ⟨hxs_inj a b hsa hsb, fun h => by rw [h]⟩)
  have hi1 : (Tryd.prog.info? 25).map (·.size) = some c.size := by rw [hc.1]; exact zero_digest.2
  have hi2 : (Tryd.prog.info? 25).map (·.size) = some d.size := by rw [hd.1]; exact zero_digest.2
  have HI1 := Lib.hid hi1
  have HI2 := Lib.hid hi2
  have hg1 := (heap_alloc_old (w.alloc (.cells c 25)) (.cells d 25) (r := w.heap.size) (by simp)).trans (heap_alloc_new w (.cells c 25))
  have hg2 := heap_alloc_new (w.alloc (.cells c 25)) (.cells d 25)
  rw [show (w.alloc (.cells c 25)).heap.size = w.heap.size + 1 from by simp] at hg2
  obtain ⟨W0, hW0⟩ : ∃ W, (w.alloc (.cells c 25)).alloc (.cells d 25) = W := ⟨_, rfl⟩
  have hx0 : Ext w W0 := by rw [← hW0]; exact ((Ext.refl w).alloc _).alloc _
  rw [hW0] at hg1 hg2
  obtain ⟨g, hg⟩ : ∃ g, w.heap.size = g := ⟨_, rfl⟩
  obtain ⟨h, hh⟩ : ∃ h, g + 1 = h := ⟨_, rfl⟩
  rw [hg] at hg1 hg2
  rw [hh] at hg2
  have FA := Lib.hid (show ∀ W, Ext W0 W → W.heap[g]? = some (.cells c 25 (0, 0)) from fun W hW => (hW.below.block g (by have := (Array.getElem?_eq_some_iff.1 hg1).1; exact this)).trans hg1)
  have FB := Lib.hid (show ∀ W, Ext W0 W → W.heap[h]? = some (.cells d 25 (0, 0)) from fun W hW => (hW.below.block h (by have := (Array.getElem?_eq_some_iff.1 hg2).1; exact this)).trans hg2)
  have HX0 := Lib.hid hx0
  have HW0 := Lib.hid hW0
  have HG := Lib.hid hg
  have HH := Lib.hid hh
  clear C hgl hc hd ha hb hsa hsb hi1 hi2 hg1 hg2 hx0 hW0 hg hh
  go_enter Tryd.func8, Tryd.ntmps8
  go_wp2_with fail
  rw [HW0.out, HG.out, HH.out]
  refine (HAW.out _ HX0.out).mono ?_
  rintro e w1 ⟨rfl, hx1⟩
  have HX1 := Lib.hid hx1
  have HA1 := Lib.hid (FA.out _ hx1)
  clear hx1
  have LA := Lib.hid (show ∀ W, AfterH w1 W → (Instr.loadAt 25 (.pointer (some ⟨g, 0, none⟩))).run Tryd.prog W = .ok (.agg c) W from fun W hW => run_load_all W g 25 _ 32 5 Tryd.underlying25 (FA.out W (HX1.out.trans hW)) HI1.out)
  have LB := Lib.hid (show ∀ W, AfterH w1 W → (Instr.loadAt 25 (.pointer (some ⟨h, 0, none⟩))).run Tryd.prog W = .ok (.agg d) W from fun W hW => run_load_all W h 25 _ 32 5 Tryd.underlying25 (FB.out W (HX1.out.trans hW)) HI2.out)
  obtain ⟨sa, hsa⟩ : ∃ s, hxb a = s := ⟨_, rfl⟩
  obtain ⟨sb, hsb⟩ : ∃ s, hxb b = s := ⟨_, rfl⟩
  have CA := Lib.hid (show ∀ W, AfterH w1 W → Calls Tryd.prog 17 #[.agg c] W (fun e w' => e = .returned (.string sa) ∧ AfterH w1 w') from fun W hW => (HHA.out W).mono fun _ _ h => ⟨by rw [h.1, hsa], Ext.trans hW h.2⟩)
  have CB := Lib.hid (show ∀ W, AfterH w1 W → Calls Tryd.prog 17 #[.agg d] W (fun e w' => e = .returned (.string sb) ∧ AfterH w1 w') from fun W hW => (HHB.out W).mono fun _ _ h => ⟨by rw [h.1, hsb], Ext.trans hW h.2⟩)
  obtain ⟨r, hr⟩ : ∃ r, decide (a = b) = r := ⟨_, rfl⟩
  have qs : (sa.toList == sb.toList) = r := by
    rw [← hr, ← hsa, ← hsb, hxb_list, hxb_list]
    by_cases e : a = b
    · rw [decide_eq_true e, e]; simp
    · rw [decide_eq_false e]; exact beq_eq_false_iff_ne.2 (fun h => e (HIJ.out.1 h))
  have qd : ∀ W, (binOp .eql 25 (.agg c) (.agg d)).run Tryd.prog W = .ok (.bool r) W := fun W => by rw [HEQ.out, hr]
  have HX2 := Lib.hid (HX0.out.trans HX1.out)
  clear hsa hsb hr
  go_wp2
  refine wp_region_quiet (C := AfterH w1) (by kernel_rfl) (by kernel_rfl) (show AfterH w1 w1.drew from (Ext.refl w1).drew) ?_
  refine wpQuiet_load rfl 25 (.tmp 2) rfl (.agg c) (fun W hW => LA.out W hW) ?_
  refine wpQuiet_step (fun K hK => ?_); go_simp; refine ⟨_, fun W hW => CA.out W hW, hK _ ?_⟩; clear hK K
  refine wpQuiet_load rfl 25 (.tmp 3) rfl (.agg d) (fun W hW => LB.out W hW) ?_
  refine wpQuiet_step (fun K hK => ?_); go_simp; refine ⟨_, fun W hW => CB.out W hW, hK _ ?_⟩; clear hK K
  refine wpQuiet_step (fun K hK => ?_); go_simp; refine ⟨_, fun _ _ => rfl, hK _ ?_⟩; clear hK K
  refine wpQuiet_load rfl 25 (.tmp 2) rfl (.agg c) (fun W hW => LA.out W hW) ?_
  refine wpQuiet_load rfl 25 (.tmp 3) rfl (.agg d) (fun W hW => LB.out W hW) ?_
  repeat (refine wpQuiet_step (fun K hK => ?_); go_simp; refine ⟨_, fun _ _ => rfl, hK _ ?_⟩; clear hK K)
  refine wpQuiet_nil ?_
  intro w3 hx3
  have HX3 := Lib.hid (HX2.out.trans hx3)
  clear hx3
  go_wp2
  go_ret
  exact ⟨rfl, HX3.out⟩
end Go.Proofs.YtfhmafncpodlbaaDoor

/-
  Parts of slices of bytes. Conditions: none; no function is named here.
-/
namespace Go.Proofs.YtfhmafncpodlbaaDoor
open Go.RowKit
open Pol (co Sm)

/-- s[:h] of bytes. -/
theorem run_to_u8 (A : Option Addr) (len cap h : Nat) (hh : h ≤ cap) (W : World) :
    (Instr.slice 22 (.slice A len cap) none (some (.int .i64 (h : Int))) none).run Tryd.prog W = .ok (.slice A h cap) W := by
  obtain ⟨i0, hi, hz0, hz1, hz2⟩ := info_parts u8_info
  have he : Tryd.prog.elem 22 = 5 := by kernel_rfl
  rw [run_slice_h W 22 _ len cap (by rw [he]; exact Tryd.underlying22) .i64 (h : Int) (by omega) (by omega), he]
  cases A <;> simp [sizeOf, typeInfo, hi, hz1, Result.andThen, sliced, Addr.add]
/-- s[a:b] of bytes. -/
theorem run_cut_u8 (A : Option Addr) (len cap a b : Nat) (hab : a ≤ b) (hb : b ≤ cap) : ∃ X : Option Addr, (∀ W, (Instr.slice 22 (.slice A len cap) (some (.int .i64 (a : Int))) (some (.int .i64 (b : Int))) none).run Tryd.prog W = .ok (.slice X (b - a) (cap - a)) W) ∧
    ∀ w l, Rd w A l → b ≤ l.length → Rd w X (tab (b - a) (fun j => co l (a + j))) := by
  obtain ⟨i0, hi, hz0, hz1, hz2⟩ := info_parts u8_info
  have he : Tryd.prog.elem 22 = 5 := by kernel_rfl
  refine ⟨if cap = a then A else A.map (·.add a), fun W => ?_, fun w l h hl => ⟨tab_sm _ _ fun _ _ => h.1 _, fun i hi => ?_⟩⟩
  · rw [run_slice_lh W 22 _ len cap (by rw [he]; exact Tryd.underlying22) .i64 .i64 (a : Int) (b : Int) (by omega) (by omega) (by omega), he]
    cases A <;> simp [sizeOf, typeInfo, hi, hz1, Result.andThen, sliced]
  · rw [tab_len] at hi
    obtain ⟨b', o', e, hc⟩ := h.2 (a + i) (by omega)
    subst e
    refine ⟨b', o' + a, by rw [if_neg (by omega)]; simp [addr_add], ?_⟩
    rw [co_tab, if_pos hi, Nat.add_assoc]
    exact hc
/-- s[l:] of bytes, whole. -/
theorem run_rest_u8 (A : Option Addr) (len cap l : Nat) (hl : l ≤ len) (hc : len ≤ cap) : ∃ X : Option Addr, (∀ W, (Instr.slice 22 (.slice A len cap) (some (.int .i64 (l : Int))) none none).run Tryd.prog W = .ok (.slice X (len - l) (cap - l)) W) ∧
    (∀ w L, Rd w A L → L.length = len → Rd w X (tab (len - l) (fun j => co L (l + j)))) ∧ (∀ b o, l < cap → A = some ⟨b, o, none⟩ → X = some ⟨b, o + l, none⟩) := by
  obtain ⟨i0, hi, hz0, hz1, hz2⟩ := info_parts u8_info
  have he : Tryd.prog.elem 22 = 5 := by kernel_rfl
  refine ⟨if cap = l then A else A.map (·.add l), fun W => ?_, fun w L h hL => ⟨tab_sm _ _ fun _ _ => h.1 _, fun i hi => ?_⟩, fun b o h e => ?_⟩
  · rw [run_slice_l W 22 _ len cap (by rw [he]; exact Tryd.underlying22) .i64 (l : Int) (by omega) (by omega), he]
    cases A <;> simp [sizeOf, typeInfo, hi, hz1, Result.andThen, sliced]
  · rw [tab_len] at hi
    obtain ⟨b', o', e, hc⟩ := h.2 (l + i) (by omega)
    subst e
    refine ⟨b', o' + l, by rw [if_neg (by omega)]; simp [addr_add], ?_⟩
    rw [co_tab, if_pos hi, Nat.add_assoc]
    exact hc
  · subst e
    rw [if_neg (by omega)]
    simp [addr_add]

end Go.Proofs.YtfhmafncpodlbaaDoor

/-
  Literals of rows, and rows that lie in newer blocks than another one. Conditions: none.
-/
namespace Go.Proofs.YtfhmafncpodlbaaDoor
open Go.RowKit
open Pol (co Sm)

theorem rrd_lit (w : World) (vs : List Value) (rows : List (List Nat)) (h : RowsV w vs rows) : RRd (w.alloc (.cells vs.toArray 22)) (some ⟨w.heap.size, 0, none⟩) rows := fun i hi => by
  obtain ⟨B, c, hv, hl, hr⟩ := h.2 i hi
  refine ⟨w.heap.size, 0, B, c, rfl, ?_, hl, hr.ext ((Ext.refl _).alloc _)⟩
  rw [cell_of_row _ _ _ _ _ _ (heap_alloc_new w _), Nat.zero_add]
  simpa using hv
theorem rowsV_one {w : World} {v : Value} {l : List Nat} (h : Sl w v l) : RowsV w [v] [l] := ⟨rfl, fun i hi => by
  match i, hi with
  | 0, _ =>
    obtain ⟨B, c, rfl, hc, hr⟩ := h
    exact ⟨B, c, rfl, hc, hr⟩⟩
theorem take_ro (rows : List (List Nat)) (k : Nat) (h : k < rows.length) : rows.take (k + 1) = rows.take k ++ [ro rows k] := by
  rw [List.take_succ_eq_append_getElem h]
  unfold ro
  rw [List.getElem?_eq_getElem h]
  rfl
/-- A literal of one row, whose bytes lie in a block that is new: it lies in no elder block. -/
theorem far_one {w : World} {v : Value} {l : List Nat} {base : Nat} (hm : Mine w base v l) (row : Option Nat) (hrow : ∀ k, row = some k → k < base) (g : Nat) (hg : g = w.heap.size) :
    ∀ i, i < [l].length → ∀ b o n c, (∃ b' o', (some ⟨g, 0, none⟩ : Option Addr) = some ⟨b', o', none⟩ ∧ (w.alloc (.cells #[v] 22)).cell? ⟨b', o' + i, none⟩ = some (.slice (some ⟨b, o, none⟩) n c)) → 0 < n → some b ≠ row := by
  rintro i hi b o n c ⟨b', o', e, hc⟩ hn e'
  subst hg
  injection e with e
  injection e with e1 e2
  subst e1; subst e2
  have hi0 : i = 0 := by simpa using hi
  subst hi0
  rw [cell_of_row _ _ _ _ _ _ (heap_alloc_new w _)] at hc
  have hv : v = .slice (some ⟨b, o, none⟩) n c := by simpa using hc
  have hb := World.ownsRow.lt hm b (by rw [hv]; rfl)
  have := hrow b e'.symm
  omega
end Go.Proofs.YtfhmafncpodlbaaDoor

/-
  The statements' own comparison of bytes tells lists that are unlike from those that are alike. Conditions: no more than 2^20 bytes.
-/
namespace Go.Proofs.YtfhmafncpodlbaaDoor
open Go.RowKit
open Pol (co Sm)

set_option maxHeartbeats 400000 in
set_option maxRecDepth 100000 in
theorem same_no (l m : List Nat) (A B : Option Addr) (ca cb : Nat) (w : World) (ha : Rd w A l) (hb : Rd w B m) (hl : l.length ≤ 1048576) (h : l ≠ m) :
    Calls Tryd.prog 15 #[.slice A l.length ca, .slice B m.length cb] w (Hands (.bool false) w) := by
  by_cases hlm : l.length = m.length
  · rw [← hlm]
    have HNE := Lib.hid (fun (k : ∀ j, j < l.length → co l j = co m j) => h (Lin.list_ext hlm k))
    have HLM := Lib.hid hlm
    generalize hn : l.length = n at *
    have HA := Lib.hid ha
    have HB := Lib.hid hb
    have HN := Lib.hid hn
    clear ha hb hn h hlm
    go_enter Tryd.func15, Tryd.ntmps15
    go_wp2
    go_loopg [13] n (fun g s wx => ∃ k q : Nat, k + g = n ∧ s = .int .i64 (k : Int) ∧ wx = w.drewN q ∧ ∀ j, j < k → co l j = co m j)
    case atStart => exact ⟨0, 0, by omega, rfl, rfl, fun j hj => by omega⟩
    case round =>
      obtain ⟨k, q, hkg, rfl, rfl, hsame⟩ := hrel
      have HSA := Lib.hid hsame
      clear hsame
      cases gk with
      | zero =>
        obtain rfl : k = n := by omega
        exact absurd HSA.out HNE.out
      | succ g =>
        have hk : k < n := by omega
        obtain ⟨b, o, rfl, hc⟩ := HA.out.2 k (by rw [HN.out]; exact hk)
        obtain ⟨b', o', rfl, hc'⟩ := HB.out.2 k (by rw [← HLM.out]; exact hk)
        have hkI : (k : Int) < (n : Int) := by omega
        obtain ⟨x, hx⟩ : ∃ x, co l k = x := ⟨_, rfl⟩
        obtain ⟨y, hy⟩ : ∃ y, co m k = y := ⟨_, rfl⟩
        rw [hx] at hc
        rw [hy] at hc'
        by_cases e : x = y
        · have t : ((x : Int) != (y : Int)) = false := by subst e; simp
          have HE := Lib.hid (show co l k = co m k by rw [hx, hy]; exact e)
          clear e hx hy
          go_wp2
          go_quiet (fail)
          go_wp2
          go_roundg g
          case measure => omega
          case rel => exact ⟨k + 1, _, by omega, by go_num, rfl, fun j hj => by
            by_cases e : j = k
            · subst e; exact HE.out
            · exact HSA.out j (by omega)⟩
        · have t : ((x : Int) != (y : Int)) = true := by simp; omega
          clear e hx hy
          go_wp2
          go_quiet (fail)
          go_wp2
          go_ret
          exact ⟨rfl, q + nq, by rw [World.drewN_drewN]⟩
  · have t : ((l.length : Int) != (m.length : Int)) = true := by simp; omega
    generalize l.length = n at *
    generalize m.length = n' at *
    clear ha hb h
    go_enter Tryd.func15, Tryd.ntmps15
    go_wp2
    go_ret
    exact ⟨rfl, 0, rfl⟩
end Go.Proofs.YtfhmafncpodlbaaDoor

/-
  A region that draws its order, by an invariant: what holds of the listed operations, whichever they are, is kept by each operation that may come up next. Conditions: each operation waits for operations ahead of it in the text alone; of no program in particular.
-/
namespace Go.Proofs.YtfhmafncpodlbaaDoor
open Go

section
variable {P : Program} {ops : Array Oper} {Q : Exit → Act → World → Prop}

theorem Oper.wp_then {o : Oper} {a : Act} {w : World} {K K' : Act → World → Prop} (h : ∀ a w, K' a w → K a w) (hh : o.wp P a w K' (Exit.then K Q)) : o.wp P a w K Q := by
  unfold Oper.wp at *
  generalize (execOp a.eval o).run P w = r at *
  cases r with
  | ok n w' =>
    cases n <;> simp only [Oper.upon] at hh ⊢ <;>
      first
        | exact h _ _ hh
        | exact Calls.mono hh (fun e w'' he => by cases e <;> first | exact h _ _ he | exact he)
        | exact Rows.mono hh (fun _ _ he => h _ _ he)
  | halt x w' => cases x <;> simp only [Oper.upon] at hh ⊢ <;> exact hh
theorem wpOp_of_one {i : Nat} {o : Oper} {a : Act} {w : World} {K : Act → World → Prop} (hi : ops[i]? = some o) (h : wpList P ops (Exit.then K Q) [o] a w) : wpOp P ops Q i K a w := by
  unfold wpOp
  rw [hi]
  simp only
  unfold wpList at h
  split
  · rename_i hw
    rw [if_pos hw] at h
    rcases h with h | h
    · exact .inl (Oper.wp_then (fun a w h => by unfold wpList at h; exact h) h)
    · exact .inr h
  · rename_i hw
    rw [if_neg hw] at h
    unfold wpList at h
    exact h
def depsB (l : List Oper) : Bool := (List.range l.length).all fun i => match l[i]? with | some o => o.after.all (fun e => decide (e.on < i)) | none => true
theorem depsB_spec {l : List Oper} (h : depsB l = true) {i : Nat} {o : Oper} (hi : l[i]? = some o) : ∀ e ∈ o.after, e.on < i := by
  have hlt : i < l.length := (List.getElem?_eq_some_iff.1 hi).1
  have h1 := List.all_eq_true.1 h i (List.mem_range.2 hlt)
  rw [hi] at h1
  intro e he
  have h2 := (Array.all_eq_true_iff_forall_mem.1 h1) e he
  simpa using h2
theorem getD_true_of {L : Array Bool} {k : Nat} (h : L.getD k false = true) : L.getD k true = true := by
  rw [Array.getD_eq_getD_getElem?] at h ⊢
  cases hk : L[k]? with
  | none => rfl
  | some b => rw [hk] at h; exact h
theorem getD_false_of {L : Array Bool} {k : Nat} (hk : k < L.size) (h : L.getD k true = true) : L.getD k false = true := by
  rw [Array.getD_eq_getD_getElem?] at h ⊢
  rw [Array.getElem?_eq_getElem hk] at h ⊢
  exact h
theorem getD_listed (L : Array Bool) (i j : Nat) : (L.setIfInBounds i true).getD j true = (j == i || L.getD j true) := by
  by_cases e : j = i
  · subst e
    rw [Array.getD_eq_getD_getElem?, Array.getElem?_setIfInBounds_self]
    split <;> simp
  · rw [getD_set_ne true (fun h => e h.symm), show (j == i) = false from beq_eq_false_iff_ne.2 e, Bool.false_or]

theorem wpAny_inv {l : List Oper} (I : (Nat → Bool) → Act → World → Prop) (hB : depsB l = true)
    (hs : ∀ i o, l[i]? = some o → ∀ L a w, I L a w → L i = false → (∀ e ∈ o.after, Region.binds .any e = true → L e.on = true) → wpList P l.toArray (Exit.then (fun a' w' => I (fun j => j == i || L j) a' w') Q) [o] a w)
    (he : ∀ L a w, (∀ i, i < l.length → L i = true) → I L a w → Q .normal a w) :
    ∀ (f : Nat) (L : Array Bool) (a : Act) (w : World) (U : List Nat), L.size = l.length → U.length = f → (∀ i, L.getD i true = false → i ∈ U) → I (fun i => L.getD i true) a w → wpAny P .any l.toArray Q f L a w := by
  have hall : ∀ L : Array Bool, L.size = l.length → Region.ready .any l.toArray L = [] → ∀ i, i < l.length → L.getD i true = true := fun L hsz hr i => by
    induction i using Nat.strongRecOn with
    | _ i ih =>
      intro hi
      cases hb : L.getD i true with
      | true => rfl
      | false =>
        have hoi : l.toArray[i]? = some l[i] := by simp [hi]
        have hm : i ∈ Region.ready .any l.toArray L := mem_ready.2 ⟨hb, _, hoi, fun e hee _ => by
          have hlt := depsB_spec hB (i := i) (o := l[i]) (by simp [hi]) e hee
          exact getD_false_of (by omega) (ih e.on hlt (by omega))⟩
        rw [hr] at hm
        cases hm
  intro f
  induction f with
  | zero =>
    intro L a w U hsz hU hin hI
    have hU0 : U = [] := List.eq_nil_of_length_eq_zero hU
    subst hU0
    have hL : ∀ i, L.getD i true = true := fun i => by
      cases hb : L.getD i true with
      | true => rfl
      | false => exact absurd (hin i hb) (by simp)
    refine ⟨?_, he _ a w (fun i _ => hL i) hI⟩
    rcases hr : Region.ready .any l.toArray L with _ | ⟨i, r⟩
    · rfl
    · have hm : i ∈ Region.ready .any l.toArray L := by rw [hr]; simp
      have := (mem_ready.1 hm).1
      rw [hL i] at this
      cases this
  | succ f ih =>
    intro L a w U hsz hU hin hI
    refine ⟨fun hr => he _ a w (hall L hsz hr) hI, fun i hi => ?_⟩
    obtain ⟨hun, o, ho, haft⟩ := mem_ready.1 hi
    have ho' : l[i]? = some o := by simpa using ho
    have h1 := hs i o ho' _ a w hI hun (fun e hee hb => getD_true_of (haft e hee hb))
    have hU' : (U.erase i).length = f := by rw [List.length_erase_of_mem (hin i hun)]; omega
    refine wpOp_mono (fun a' w' hI' => ?_) (wpOp_of_one ho h1)
    refine ih _ a' w' (U.erase i) (by simpa using hsz) hU' (fun j hj => ?_) ?_
    · rw [getD_listed, Bool.or_eq_false_iff] at hj
      exact (List.mem_erase_of_ne (by simpa using hj.1)).2 (hin j hj.2)
    · simp only [getD_listed]
      exact hI'
theorem wp_region_inv {id : Nat} {a : Act} {w : World} {l : List Oper} (I : (Nat → Bool) → Act → World → Prop) (hm : P.follows .mixedOrders = true) (hB : depsB l = true) (h0 : I (fun i => !decide (i < l.length)) a w.drew)
    (hs : ∀ i o, l[i]? = some o → ∀ L a w, I L a w → L i = false → (∀ e ∈ o.after, Region.binds .any e = true → L e.on = true) → wpList P l.toArray (Exit.then (fun a' w' => I (fun j => j == i || L j) a' w') Q) [o] a w)
    (he : ∀ L a w, (∀ i, i < l.length → L i = true) → I L a w → wpList P l.toArray Q [] a w) : (Code.region id l.toArray true).wp P Q a w := by
  have e0 : (fun i => (Array.replicate l.toArray.size false).getD i true) = fun i => !decide (i < l.length) := by
    funext i
    rw [Array.getD_eq_getD_getElem?, Array.getElem?_replicate]
    by_cases h : i < l.length <;> simp [h]
  refine wp_region_any hm ?_
  refine wpAny_inv I hB hs he l.toArray.size _ a _ (List.range l.length) (by simp) (by simp) (fun i hi => ?_) (by rw [e0]; exact h0)
  have h1 := congrFun e0 i
  rw [hi] at h1
  exact List.mem_range.2 (by simpa using h1.symm)
end
end Go.Proofs.YtfhmafncpodlbaaDoor

/-
  A region that draws its order, some of whose operations only read what stays: these may be taken ahead of the others, and the others come one after the other. Conditions: a check of the region's text (by the kernel); of no program in particular.
-/
namespace Go.Proofs.YtfhmafncpodlbaaDoor
open Go

section
variable {P : Program} {ops : Array Oper} {Q : Exit → Act → World → Prop} {md : Region.Mode} {C : World → Prop}

/-- In every world of the class the operation yields v and leaves the world alone. -/
def YieldsC (P : Program) (ops : Array Oper) (C : World → Prop) (o : Oper) (v : Value) (a : Act) : Prop :=
  (Region.wanted o (yielded ops a.tmps) = true ∧ ∀ w, C w → (execOp a.eval o).run P w = .ok (.value v) w) ∨ (Region.wanted o (yielded ops a.tmps) = false ∧ v = undef) ∨
    (Region.wanted o (yielded ops a.tmps) = true ∧ ∃ f args, (∀ w, C w → (execOp a.eval o).run P w = .ok (.enter f args) w) ∧ ∀ w, C w → Calls P f args w (fun e w' => e = .returned v ∧ w = w'))
theorem YieldsC.wpOp {i : Nat} {o : Oper} {v : Value} {a : Act} (hi : ops[i]? = some o) (hy : YieldsC P ops C o v a) {K : Act → World → Prop} {w : World} (hw : C w) (h : K (a.put o.dst v) w) : wpOp P ops Q i K a w := by
  unfold Go.wpOp
  simp only [hi]
  rcases hy with ⟨hg, hv⟩ | ⟨hg, rfl⟩ | ⟨hg, f, args, hv, hc⟩
  · simp only [hg, if_true, Oper.wp, hv w hw, Oper.upon]; exact .inl h
  · simp only [hg, Bool.false_eq_true, if_false]; exact h
  · simp only [hg, if_true, Oper.wp, hv w hw, Oper.upon]
    refine .inl (Calls.mono (hc w hw) ?_)
    rintro e w' ⟨rfl, rfl⟩
    exact h
theorem YieldsC.of_same {o : Oper} {v : Value} {a a' : Act} (hy : YieldsC P ops C o v a) (he : execOp a'.eval o = execOp a.eval o) (hw : Region.wanted o (yielded ops a'.tmps) = Region.wanted o (yielded ops a.tmps)) : YieldsC P ops C o v a' := by
  unfold YieldsC at *
  rw [he, hw]
  exact hy
theorem wpOp_putC {j : Nat} {oi oj : Oper} {v : Value} (hj : ops[j]? = some oj) (hap : oi.apart ops oj = true) (hsi : ∀ cs b, oi.op ≠ .select cs b) (hsj : ∀ cs b, oj.op ≠ .select cs b)
    (hQ : ∀ c a w, Q (.panic c) (a.put oi.dst v) w → Q (.panic c) a w) {K : Act → World → Prop} {a : Act} {w : World} (hy : YieldsC P ops C oi v a) (h : wpOp P ops Q j K (a.put oi.dst v) w) :
    wpOp P ops Q j (fun a' w' => YieldsC P ops C oi v a' ∧ K (a'.put oi.dst v) w') a w := by
  obtain ⟨h1, h2, h3⟩ := Oper.apart_spec hap
  have keep : ∀ (a : Act), YieldsC P ops C oi v a → ∀ u, YieldsC P ops C oi v (a.put oj.dst u) := fun a hy u => hy.of_same (execOp_put oi hsi a oj.dst u h3) (wanted_put oi a oj.dst u h3)
  have keepD : ∀ d, YieldsC P ops C oi v { a with defers := d :: a.defers } := fun d => hy.of_same rfl rfl
  unfold wpOp at *
  simp only [hj] at *
  rw [wanted_put oj a oi.dst v h1] at h
  split
  · rename_i hw
    simp only [hw, if_true] at h
    rcases h with h | ⟨hasks, hlets⟩
    case inr => exact .inr ⟨by unfold Oper.asks at *; rw [execOp_put oj hsj a oi.dst v h1] at hasks; exact hasks, hlets⟩
    refine .inl ?_
    unfold Oper.wp at *
    rw [execOp_put oj hsj a oi.dst v h1] at h
    generalize (execOp a.eval oj).run P w = r at *
    cases r with
    | ok n w' =>
      cases n <;> simp only [Oper.upon] at h ⊢
      case value u => exact ⟨keep a hy u, by rw [← Act.put_comm a v u h2]; exact h⟩
      case skip => exact ⟨keep a hy _, by rw [← Act.put_comm a v undef h2]; exact h⟩
      case defer d =>
        refine ⟨keep _ (keepD d) _, ?_⟩
        rw [← Act.put_comm _ v undef h2, ← Act.put_defers]
        exact h
      case enter f args =>
        refine Calls.mono h fun e w'' he => ?_
        cases e with
        | returned u => exact ⟨keep a hy u, by rw [← Act.put_comm a v u h2]; exact he⟩
        | panicked c => exact hQ _ _ _ he
        | outgrown => exact he
      case row row args => exact Rows.mono h fun u w'' he => ⟨keep a hy u, by rw [← Act.put_comm a v u h2]; exact he⟩
    | halt x w' =>
      cases x <;> simp only [Oper.upon] at h ⊢
      case panic u => exact hQ _ _ _ h
  · rename_i hw
    simp only [hw] at h
    exact ⟨keep a hy _, by rw [← Act.put_comm a v undef h2]; exact h⟩

/-- As wpAny, and the operations of F leave the world in the class. -/
def wpAnyC (P : Program) (md : Region.Mode) (ops : Array Oper) (C : World → Prop) (F : Nat → Bool) (Q : Exit → Act → World → Prop) : Nat → Array Bool → Act → World → Prop
  | 0, listed, a, w => Region.ready md ops listed = [] ∧ Q .normal a w
  | fuel + 1, listed, a, w => (Region.ready md ops listed = [] → Q .normal a w) ∧ ∀ i ∈ Region.ready md ops listed, wpOp P ops Q i (fun a' w' => (F i = true → C w') ∧ wpAnyC P md ops C F Q fuel (listed.setIfInBounds i true) a' w') a w
theorem wpAny_of_C {F : Nat → Bool} : ∀ (fuel : Nat) (listed : Array Bool) (a : Act) (w : World), wpAnyC P md ops C F Q fuel listed a w → wpAny P md ops Q fuel listed a w
  | 0, _, _, _, h => h
  | fuel + 1, _, _, _, h => ⟨h.1, fun i hi => wpOp_mono (fun a' w' h' => wpAny_of_C fuel _ a' w' h'.2) (h.2 i hi)⟩
/-- What is listed waits for nothing that is not. -/
def Closed (md : Region.Mode) (ops : Array Oper) (listed : Array Bool) : Prop := ∀ j oj, ops[j]? = some oj → listed.getD j false = true → ∀ e ∈ oj.after, Region.binds md e = true → listed.getD e.on false = true
theorem Closed.set {listed : Array Bool} (h : Closed md ops listed) {i : Nat} (hi : i ∈ Region.ready md ops listed) : Closed md ops (listed.setIfInBounds i true) := fun j oj hoj hl e he hb => by
  by_cases hji : j = i
  · subst hji
    obtain ⟨_, o, ho, hall⟩ := mem_ready.1 hi
    rw [hoj] at ho
    injection ho with ho
    subst ho
    exact getD_set_true (hall e he hb)
  · rw [getD_set_ne false (fun h => hji h.symm)] at hl
    exact getD_set_true (h j oj hoj hl e he hb)
/-- What stands behind i; what is not of F does. -/
def bhStep (md : Region.Mode) (ops : Array Oper) (i : Nat) (acc : List Nat) (j : Nat) : List Nat :=
  match ops[j]? with
  | some oj => if oj.after.any (fun e => Region.binds md e && (e.on == i || acc.contains e.on)) then j :: acc else acc
  | none => acc
def behindB (md : Region.Mode) (ops : Array Oper) (F : Nat → Bool) (i : Nat) : Bool :=
  (List.range ops.size).all fun j => j == i || F j || ((List.range ops.size).foldl (bhStep md ops i) []).contains j
theorem bh_fold {i : Nat} {listed : Array Bool} (hc : Closed md ops listed) (hi : listed.getD i false = false) : ∀ (l acc : List Nat), (∀ j ∈ acc, listed.getD j false = false ∧ j ∉ Region.ready md ops listed) →
    ∀ j ∈ l.foldl (bhStep md ops i) acc, listed.getD j false = false ∧ j ∉ Region.ready md ops listed
  | [], acc, h => h
  | k :: l, acc, h => by
    refine bh_fold hc hi l (bhStep md ops i acc k) ?_
    unfold bhStep
    cases hk : ops[k]? with
    | none => exact h
    | some ok =>
      simp only
      split
      · rename_i hany
        intro j hj
        rcases List.mem_cons.1 hj with e | e
        · subst e
          obtain ⟨e, he, hb⟩ := Array.any_eq_true'.1 hany
          simp only [Bool.and_eq_true, Bool.or_eq_true, beq_iff_eq] at hb
          have hno : listed.getD e.on false = false := by
            rcases hb.2 with h2 | h2
            · rw [h2]; exact hi
            · exact (h e.on (by simpa using h2)).1
          constructor
          · cases hl : listed.getD j false with
            | false => rfl
            | true =>
              have := hc j ok hk hl e he hb.1
              rw [hno] at this
              cases this
          · intro hr
            obtain ⟨_, o, ho, hall⟩ := mem_ready.1 hr
            rw [hk] at ho
            injection ho with ho
            subst ho
            have := hall e he hb.1
            rw [hno] at this
            cases this
        · exact h j e
      · exact h
theorem behind_not {F : Nat → Bool} {i : Nat} (hB : behindB md ops F i = true) {listed : Array Bool} (hc : Closed md ops listed) (hi : listed.getD i false = false) :
    ∀ j, j < ops.size → j ≠ i → F j = false → listed.getD j false = false ∧ j ∉ Region.ready md ops listed := fun j hj hji hF => by
  have h1 := List.all_eq_true.1 hB j (List.mem_range.2 hj)
  simp only [hF, Bool.or_false, Bool.or_eq_true, beq_iff_eq, hji, false_or] at h1
  exact bh_fold hc hi _ [] (fun _ h => absurd h (by simp)) j (by simpa using h1)

theorem wpAnyC_first {F : Nat → Bool} {i : Nat} {oi : Oper} {v : Value} (hi : ops[i]? = some oi) (hsel : ∀ (j : Nat) (o : Oper) cs b, ops[j]? = some o → o.op ≠ .select cs b)
    (hQ : ∀ c a w, Q (.panic c) (a.put oi.dst v) w → Q (.panic c) a w) (hB : behindB md ops F i = true) :
    ∀ (fuel : Nat) (listed : Array Bool) (a : Act) (w : World), C w → Closed md ops listed →
      (∀ j oj, ops[j]? = some oj → j ≠ i → listed.getD j true = false → (∀ e ∈ oj.after, Region.binds md e = true → e.on ≠ i) → oi.apart ops oj = true) →
      i ∈ Region.ready md ops listed → YieldsC P ops C oi v a →
      wpAnyC P md ops C F Q fuel (listed.setIfInBounds i true) (a.put oi.dst v) w → wpAnyC P md ops C F Q (fuel + 1) listed a w := by
  intro fuel
  induction fuel with
  | zero =>
    intro listed a w hC _ _ hr hy H
    refine ⟨fun h => (by rw [h] at hr; cases hr), fun j hj => ?_⟩
    by_cases hji : j = i
    · subst hji; exact hy.wpOp hi hC ⟨fun _ => hC, H⟩
    · have := ready_mono hj hji
      rw [H.1] at this
      cases this
  | succ fuel ih =>
    intro listed a w hC hcl hfree hr hy H
    refine ⟨fun h => (by rw [h] at hr; cases hr), fun j hj => ?_⟩
    by_cases hji : j = i
    · subst hji; exact hy.wpOp hi hC ⟨fun _ => hC, H⟩
    · have h1 := H.2 j (ready_mono hj hji)
      obtain ⟨hjun, oj, hoj, hall⟩ := mem_ready.1 hj
      have hiun := (mem_ready.1 hr).1
      have hnot : ∀ e ∈ oj.after, Region.binds md e = true → e.on ≠ i := fun e he hb heq => by
        have h1 := hall e he hb
        rw [heq, getD_both hiun] at h1
        cases h1
      have hFj : F j = true := by
        cases hF : F j with
        | true => rfl
        | false => exact absurd hj (behind_not hB hcl (getD_both hiun) j (Array.getElem?_eq_some_iff.1 hoj).1 hji hF).2
      have h2 := wpOp_putC hoj (hfree j oj hoj hji hjun hnot) (fun cs b => hsel i oi cs b hi) (fun cs b => hsel j oj cs b hoj) hQ hy h1
      have hfree' : ∀ k ok, ops[k]? = some ok → k ≠ i → (listed.setIfInBounds j true).getD k true = false →
          (∀ e ∈ ok.after, Region.binds md e = true → e.on ≠ i) → oi.apart ops ok = true := fun k ok hk hki hun hno => by
        refine hfree k ok hk hki ?_ hno
        by_cases hjk : j = k
        · subst hjk; exact hjun
        · rw [getD_set_ne true hjk] at hun; exact hun
      refine wpOp_mono (fun a' w' h3 => ⟨fun _ => h3.2.1 hFj, ih (listed.setIfInBounds j true) a' w' (h3.2.1 hFj) (hcl.set hj) hfree' (ready_mono hr (Ne.symm hji)) h3.1 ?_⟩) h2
      rw [Array.setIfInBounds_comm _ _ hji]
      exact h3.2.2

/-- The walk: an operation that only reads what stays (true), or the only one that may come up (false). -/
def wpStab (P : Program) (l : List Oper) (C : World → Prop) (F : Nat → Bool) (Q : Exit → Act → World → Prop) : List (Nat × Bool) → Act → World → Prop
  | [], a, w => wpList P l.toArray Q [] a w
  | (i, true) :: π, a, w => ∃ o v, l[i]? = some o ∧ YieldsC P l.toArray C o v a ∧ wpStab P l C F Q π (a.put o.dst v) w
  | (i, false) :: π, a, w => ∃ o, l[i]? = some o ∧ wpList P l.toArray (Exit.then (fun a' w' => (F i = true → C w') ∧ wpStab P l C F Q π a' w') Q) [o] a w
theorem stab_yes {F : Nat → Bool} {l : List Oper} {i : Nat} {o : Oper} {π : List (Nat × Bool)} {a : Act} {w : World} (ho : l[i]? = some o)
    (h : ∀ K : Act → Prop, (∀ a', wpStab P l C F Q π a' w → K a') → Region.wanted o (yielded l.toArray a.tmps) = true ∧ ∃ v, (∀ W, C W → (execOp a.eval o).run P W = .ok (.value v) W) ∧ K (a.put o.dst v)) : wpStab P l C F Q ((i, true) :: π) a w := by
  obtain ⟨h1, v, h2, h3⟩ := h (fun a' => wpStab P l C F Q π a' w) (fun _ h => h)
  exact ⟨o, v, ho, .inl ⟨h1, h2⟩, h3⟩
theorem stab_call {F : Nat → Bool} {l : List Oper} {i : Nat} {o : Oper} {π : List (Nat × Bool)} {a : Act} {w : World} (ho : l[i]? = some o)
    (h : ∀ K : Act → Prop, (∀ a', wpStab P l C F Q π a' w → K a') → Region.wanted o (yielded l.toArray a.tmps) = true ∧ ∃ f args v, (∀ W, C W → (execOp a.eval o).run P W = .ok (.enter f args) W) ∧ (∀ W, C W → Calls P f args W (fun e w' => e = .returned v ∧ W = w')) ∧ K (a.put o.dst v)) : wpStab P l C F Q ((i, true) :: π) a w := by
  obtain ⟨h1, f, args, v, h2, h3, h4⟩ := h (fun a' => wpStab P l C F Q π a' w) (fun _ h => h)
  exact ⟨o, v, ho, .inr (.inr ⟨h1, f, args, h2, h3⟩), h4⟩
theorem stab_one {F : Nat → Bool} {l : List Oper} {i : Nat} {o : Oper} {π : List (Nat × Bool)} {a : Act} {w : World} (ho : l[i]? = some o)
    (h : ∀ K : Act → World → Prop, (∀ a' w', (F i = true → C w') ∧ wpStab P l C F Q π a' w' → K a' w') → wpList P l.toArray (Exit.then K Q) [o] a w) : wpStab P l C F Q ((i, false) :: π) a w :=
  ⟨o, ho, h _ (fun _ _ h => h)⟩
/-- The check: c says whether the world is in the class. -/
def stabB (md : Region.Mode) (ops : Array Oper) (F : Nat → Bool) : Bool → List (Nat × Bool) → Array Bool → Bool
  | _, [], listed => (Region.ready md ops listed).isEmpty
  | c, (i, true) :: π, listed => c && (Region.ready md ops listed).contains i && Region.free md ops listed i && behindB md ops F i && stabB md ops F c π (listed.setIfInBounds i true)
  | c, (i, false) :: π, listed => (Region.ready md ops listed == [i]) && stabB md ops F (c && F i) π (listed.setIfInBounds i true)
theorem wpAnyC_of_stab {F : Nat → Bool} {l : List Oper} (hsel : Region.noSelect l.toArray = true) (hQ : ∀ c a a' w, a.defers = a'.defers → Q (.panic c) a w → Q (.panic c) a' w) :
    ∀ (π : List (Nat × Bool)) (c : Bool) (listed : Array Bool) (a : Act) (w : World), (c = true → C w) → Closed md l.toArray listed → stabB md l.toArray F c π listed = true → wpStab P l C F Q π a w → wpAnyC P md l.toArray C F Q π.length listed a w
  | [], _, listed, a, w, _, _, hB, h => ⟨by simpa [stabB] using hB, h⟩
  | (i, true) :: π, c, listed, a, w, hC, hcl, hB, h => by
    obtain ⟨o, v, ho0, hy, hK⟩ := h
    have ho : l.toArray[i]? = some o := by simpa using ho0
    simp only [stabB, Bool.and_eq_true] at hB
    obtain ⟨⟨⟨⟨hc, hr⟩, hf⟩, hb⟩, hrest⟩ := hB
    have hr' : i ∈ Region.ready md l.toArray listed := by simpa using hr
    exact wpAnyC_first ho (Region.noSelect_spec hsel) (fun ch a w h => hQ ch _ _ w (by cases o.dst <;> rfl) h) hb π.length listed a w (hC hc) hcl (Region.free_spec ho hf) hr' hy
      (wpAnyC_of_stab hsel hQ π c _ _ _ hC (hcl.set hr') hrest hK)
  | (i, false) :: π, c, listed, a, w, hC, hcl, hB, h => by
    obtain ⟨o, ho0, hK⟩ := h
    have ho : l.toArray[i]? = some o := by simpa using ho0
    simp only [stabB, Bool.and_eq_true] at hB
    obtain ⟨hr, hrest⟩ := hB
    have hr1 : Region.ready md l.toArray listed = [i] := by simpa using hr
    have hr' : i ∈ Region.ready md l.toArray listed := by rw [hr1]; simp
    refine ⟨fun h0 => absurd h0 (by rw [hr1]; simp), fun j hj => ?_⟩
    obtain rfl : j = i := by rw [hr1] at hj; simpa using hj
    refine wpOp_mono (fun a' w' h' => ⟨h'.1, wpAnyC_of_stab hsel hQ π (c && F j) _ a' w' (fun hcf => ?_) (hcl.set hr') hrest h'.2⟩) (wpOp_of_one ho hK)
    rw [Bool.and_eq_true] at hcf
    exact h'.1 hcf.2
theorem wp_region_stab {id : Nat} {a : Act} {w : World} {l : List Oper} (C : World → Prop) (F : List Nat) (π : List (Nat × Bool)) (hm : P.follows .mixedOrders = true) (hQ : ∀ c a a' w, a.defers = a'.defers → Q (.panic c) a w → Q (.panic c) a' w)
    (hB : (Region.noSelect l.toArray && (π.length == l.length) && stabB .any l.toArray (fun i => F.contains i) true π (Array.replicate l.length false)) = true) (hC : C w.drew) (h : wpStab P l C (fun i => F.contains i) Q π a w.drew) : (Code.region id l.toArray true).wp P Q a w := by
  simp only [Bool.and_eq_true, beq_iff_eq] at hB
  obtain ⟨⟨hsel, hlen⟩, hst⟩ := hB
  refine wp_region_any hm (wpAny_of_C (C := C) (F := fun i => F.contains i) _ _ _ _ ?_)
  have h1 := wpAnyC_of_stab (P := P) (Q := Q) (C := C) (md := .any) hsel hQ π true (Array.replicate l.length false) a w.drew (fun _ => hC) (fun j oj _ hl => by rw [getD_replicate_false] at hl; cases hl) hst h
  rw [hlen] at h1
  have hsz : l.toArray.size = l.length := by simp
  rw [hsz]
  exact h1
end
/-- Two cells, and what they hold. -/
def Two (p : Addr) (v : Value) (q : Addr) (u : Value) (W : World) : Prop := W.cell? p = some v ∧ W.cell? q = some u
end Go.Proofs.YtfhmafncpodlbaaDoor

/-
  The law ShaOwn, walked, under what layer 10's functions are to do. Conditions: none.
-/
namespace Go.Proofs.YtfhmafncpodlbaaDoor
open Go.RowKit
open Pol (co Sm)

theorem jn_one_len (b : List Nat) (h : b.length ≤ 1024) : (jn [b]).length ≤ 65536 := by
  rw [jn_cons]
  show (vt b ++ []).length ≤ _
  rw [List.append_nil]
  unfold vt
  rw [List.length_append]
  have := vn_ten (n := b.length) (by omega)
  omega
section
variable {P : Program} {C : World → Prop} {Q : Exit → Act → World → Prop}
theorem stab_load {F : Nat → Bool} {l : List Oper} {i : Nat} {o : Oper} {π : List (Nat × Bool)} {a : Act} {w : World} (ho : l[i]? = some o) (ty : TypeId) (x : Operand) (hop : o.op = .load ty x) (v : Value)
    (hw : Region.wanted o (yielded l.toArray a.tmps) = true) (hrun : ∀ W, C W → (Instr.loadAt ty (a.eval x)).run P W = .ok v W) (h : wpStab P l C F Q π (a.put o.dst v) w) : wpStab P l C F Q ((i, true) :: π) a w :=
  stab_yes ho (fun _ hK => ⟨hw, v, fun W hW => by simp only [execOp, hop, Sem.run_bind, hrun W hW, Result.andThen, Sem.run_pure], hK _ h⟩)
end
/-- A digest's cells, laid into a new block. -/
theorem dg_put {c : Array Value} {l : List Nat} (h : Dgc c l) : (Tryd.prog.info? 25).map (·.size) = some c.size ∧ (bt 32 fun _ => 0).size = c.size ∧ c.all (·.oneCell') = true := by
  refine ⟨by rw [h.1]; exact zero_digest.2, by rw [bt_size, h.1], ?_⟩
  rw [h.is]
  exact bt_one 32 _
theorem tab_behind (b m : List Nat) (n N : Nat) (hn : b.length = n) (hN : (b ++ m).length = N) : tab (N - n) (fun j => co (b ++ m) (n + j)) = m := by
  rw [List.length_append] at hN
  refine Lin.list_ext (by rw [tab_len]; omega) (fun i hi => ?_)
  rw [tab_len] at hi
  rw [co_tab, if_pos hi]
  unfold co
  rw [List.getElem?_append_right (by omega), hn, Nat.add_sub_cancel_left]
set_option maxHeartbeats 1600000 in
set_option maxRecDepth 100000 in
theorem own10_walk (C : ShaSaid) (b m : List Nat) (A M : Option Addr) (cb cm : Nat) (w : World) (hgl : GL w) (hr : Rd w A b) (hc : b.length ≤ cb) (hm : Rd w M m) :
    Calls Tryd.prog 7 #[.slice A b.length cb, .slice M m.length cm] w (Holds w) := by
  have HAW := Lib.hid (fun W (h : Ext w W) => awake10 C W (hgl.ext h))
  by_cases hbig : b.length ≤ 300 ∧ m.length ≤ 300
  · obtain ⟨hb3, hm3⟩ := hbig
    have HO := Lib.hid (fun X cx W (hg : Ext w W) (h : Rd W X b) (hx : b.length ≤ cx) => C.of b X cx W (hgl.ext hg) h hx (by omega))
    have HP := Lib.hid (fun X W (hg : Ext w W) (h : RRd W X [b]) => C.parts [b] X 1 W (hgl.ext hg) h (by simp) (by simp) (fun i hi => by
      have h0 : i = 0 := by simpa using hi
      subst h0
      show b.length ≤ 1024
      omega) (jn_one_len b (by omega)))
    have HSA := Lib.hid (fun X Y cx cy W (hx : Rd W X b) (hy : Rd W Y b) => same_tells b X Y cx cy W hx hy (by omega))
    have HSB := Lib.hid (fun X Y cx cy W (hx : Rd W X m) (hy : Rd W Y m) => same_tells m X Y cx cy W hx hy (by omega))
    have HRB := Lib.hid hr
    have HRM := Lib.hid hm
    have HS1 := Lib.hid hr.1
    have HS2 := Lib.hid hm.1
    have hx0 := (Ext.refl w).alloc (.cells #[] 5)
    have d1 : decide (300 < (b.length : Int)) = false := decide_eq_false (by omega)
    have d2 : decide (300 < (m.length : Int)) = false := decide_eq_false (by omega)
    obtain ⟨n, hn⟩ : ∃ n, b.length = n := ⟨_, rfl⟩
    obtain ⟨k, hk⟩ : ∃ n, m.length = n := ⟨_, rfl⟩
    obtain ⟨N, hN⟩ : ∃ N, (b ++ m).length = N := ⟨_, rfl⟩
    have hNn : n ≤ N := by rw [← hN, List.length_append]; omega
    have hN6 : N ≤ 600 := by rw [← hN, List.length_append]; omega
    have HNL := Lib.hid hN
    have HSM8 := Lib.hid (sm_app hr.1 hm.1)
    have HN := Lib.hid hn
    have HK := Lib.hid hk
    rw [hn] at d1 hb3 hc HO HSA ⊢
    rw [hk] at d2 hm3 HSB ⊢
    clear C hgl hr hm hn hk hx0 hN
    go_enter Tryd.func7, Tryd.ntmps7
    go_wp2_with fail
    refine (HAW.out _ (Ext.refl w)).mono ?_
    rintro e w1 ⟨rfl, hx1⟩
    have HX1 := Lib.hid hx1
    clear hx1
    go_wp2_with (first
      | (at_builtin; refine wpList_append_rd rfl (.tmp 21) (.tmp 22) rfl w1.heap.size (.slice (some ⟨w1.heap.size, 0, none⟩) 0 0) [] b rfl (mine_empty w1) A n cb rfl HN.out (HRB.out.ext (HX1.out.alloc _)) (by rw [HN.out]; simp; omega) (by simp) ?_; intro v7 w7 hown7 hg7 hat7; rw [List.nil_append] at hown7; have HX7 := Lib.hid (((Ext.refl w1).alloc (.cells #[] 5)).more hg7 (fun q hq => ((mine_empty w1).block q hq).1)); have HM7 := Lib.hid hown7; clear hown7 hg7 hat7)
      | (at_builtin; refine wpList_append_rd rfl (.tmp 23) (.tmp 24) rfl w1.heap.size v7 b m rfl HM7.out M k cm rfl HK.out (HRM.out.ext (HX1.out.trans HX7.out)) (by rw [HN.out, HK.out]; omega) HX7.out.size ?_; intro v8 w8 hown8 hg8 hat8; have HX8 := Lib.hid (HX7.out.more hg8 (fun q hq => (HM7.out.block q hq).1)); obtain ⟨B8, c8, e8, hc8, hr8⟩ := hown8.slice HSM8.out; rw [HNL.out] at e8 hc8; have HR8 := Lib.hid hr8; have hc8n : n ≤ c8 := Nat.le_trans hNn hc8; have s1 := run_to_u8 B8 N c8 n hc8n; obtain ⟨X8, s2, hX8, _⟩ := run_rest_u8 B8 N c8 n hNn hc8; have HX9 := Lib.hid hX8; subst e8; clear hown8 hg8 hat8 hr8 hX8))
    have HE8 := Lib.hid (HX1.out.trans HX8.out)
    have RB := Lib.hid (fun W (h : Ext w8 W) => show Rd W B8 b from by
      have h1 := (HR8.out.ext h).take n
      rw [show (b ++ m).take n = b from by rw [← HN.out, List.take_left]] at h1
      exact h1)
    have RM := Lib.hid (fun W (h : Ext w8 W) => show Rd W X8 m from by
      have h1 := HX9.out W (b ++ m) (HR8.out.ext h) HNL.out
      rw [tab_behind b m n N HN.out HNL.out] at h1
      exact h1)
    have hkN : N - n = k := by have := HNL.out; rw [List.length_append, HN.out, HK.out] at this; omega
    rw [hkN] at s2
    clear hkN
    go_wp2_with fail
    refine (HO.out B8 c8 _ HE8.out (RB.out _ (Ext.refl _)) hc8n).mono ?_
    rintro e w9 ⟨ca, rfl, hca, hx9⟩
    obtain ⟨p1, p2, p3⟩ := dg_put hca
    have hz := zero_digest.1
    have g1 := heap_alloc_new w9 (.cells (bt 32 fun _ => 0) 25)
    obtain ⟨W9, hW9⟩ : ∃ W, (w9.alloc (.cells (bt 32 fun _ => 0) 25)).setRow w9.heap.size ca = W := ⟨_, rfl⟩
    have g2 := setRow_heap _ w9.heap.size (bt 32 fun _ => 0) ca _ _ g1
    have xW := (((Ext.refl w9).alloc (.cells (bt 32 fun _ => 0) 25)).setRow (g := w9.heap.size) (Nat.le_refl _) ca)
    rw [hW9] at g2 xW
    have P1 := Lib.hid p1
    have P2 := Lib.hid p2
    have P3 := Lib.hid p3
    have G1 := Lib.hid g1
    have G2 := Lib.hid g2
    have HW9 := Lib.hid hW9
    have HCA := Lib.hid hca
    have HXA := Lib.hid (hx9.trans xW)
    clear hca hx9 p1 p2 p3 g1 g2 hW9 xW
    go_wp2_with (with_reducible refine wpList_store_all rfl 25 (.tmp 6) (.tmp 30) rfl w9.heap.size (bt 32 fun _ => 0) ca rfl rfl G1.out P1.out P2.out P3.out ?_; rw [HW9.out])
    have HXB := Lib.hid (HXA.out.alloc (.cells #[.slice B8 n c8] 22))
    have HRR := Lib.hid (show RRd (W9.alloc (.cells #[.slice B8 n c8] 22)) (some ⟨W9.heap.size, 0, none⟩) [b] from rrd_lit W9 [.slice B8 n c8] [b] (rowsV_one ⟨B8, c8, by rw [HN.out], by rw [HN.out]; exact hc8n, RB.out _ HXA.out⟩))
    refine (HP.out _ _ (HE8.out.trans HXB.out) HRR.out).mono ?_
    rintro e u1 ⟨cy, rfl, hcy, hy1⟩
    obtain ⟨p1, p2, p3⟩ := dg_put hcy
    have hz := zero_digest.1
    have g1 := heap_alloc_new u1 (.cells (bt 32 fun _ => 0) 25)
    obtain ⟨U1, hU1⟩ : ∃ W, (u1.alloc (.cells (bt 32 fun _ => 0) 25)).setRow u1.heap.size cy = W := ⟨_, rfl⟩
    have g2 := setRow_heap _ u1.heap.size (bt 32 fun _ => 0) cy _ _ g1
    have xW := (((Ext.refl u1).alloc (.cells (bt 32 fun _ => 0) 25)).setRow (g := u1.heap.size) (Nat.le_refl _) cy)
    rw [hU1] at g2 xW
    have Q1 := Lib.hid p1
    have Q2 := Lib.hid p2
    have Q3 := Lib.hid p3
    have K1 := Lib.hid g1
    have K2 := Lib.hid g2
    have HU1 := Lib.hid hU1
    have HCY := Lib.hid hcy
    have HXY := Lib.hid (HXB.out.trans (hy1.trans xW))
    have HXY9 := Lib.hid (((Ext.refl W9).alloc (.cells #[.slice B8 n c8] 22)).trans (hy1.trans xW))
    clear hcy hy1 p1 p2 p3 g1 g2 hU1 xW
    go_wp2_with (with_reducible refine wpList_store_all rfl 25 (.tmp 7) (.tmp 36) rfl u1.heap.size (bt 32 fun _ => 0) cy rfl rfl K1.out Q1.out Q2.out Q3.out ?_; rw [HU1.out])
    have RB1 := Lib.hid (show ∀ W, AfterH U1 W → Rd W B8 b from fun W hW => RB.out W ((HXA.out.trans HXY9.out).trans hW))
    have RM1 := Lib.hid (show ∀ W, AfterH U1 W → Rd W X8 m from fun W hW => RM.out W ((HXA.out.trans HXY9.out).trans hW))
    have HXU := Lib.hid (HE8.out.trans (HXA.out.trans HXY9.out))
    have RA1 := Lib.hid (show ∀ W, AfterH U1 W → Rd W A b from fun W hW => HRB.out.ext (HXU.out.trans hW))
    have RM0 := Lib.hid (show ∀ W, AfterH U1 W → Rd W M m from fun W hW => HRM.out.ext (HXU.out.trans hW))
    have L1 := Lib.hid (show ∀ W, AfterH U1 W → (Instr.loadAt 25 (.pointer (some ⟨w9.heap.size, 0, none⟩))).run Tryd.prog W = .ok (.agg ca) W from fun W hW => run_load_all W w9.heap.size 25 _ 32 5 Tryd.underlying25 (((HXY9.out.trans hW)).below.block w9.heap.size (by have := (Array.getElem?_eq_some_iff.1 G2.out).1; exact this) |>.trans G2.out) P1.out)
    have L2 := Lib.hid (show ∀ W, AfterH U1 W → (Instr.loadAt 25 (.pointer (some ⟨u1.heap.size, 0, none⟩))).run Tryd.prog W = .ok (.agg cy) W from fun W hW => run_load_all W u1.heap.size 25 _ 32 5 Tryd.underlying25 ((Ext.below hW).block u1.heap.size (by have := (Array.getElem?_eq_some_iff.1 K2.out).1; exact this) |>.trans K2.out) Q1.out)
    go_wp2
    refine wp_region_stab (AfterH U1) [0, 1, 2, 3, 4, 5, 6, 7, 8, 9, 10, 11, 12, 13, 14, 15, 16, 17, 18, 19, 20, 21, 22, 23, 24, 25, 26, 27] [(0, true), (1, true), (2, true), (3, true), (4, true), (5, false), (6, true), (7, true), (8, true), (9, true), (10, true), (11, true), (12, false), (13, true), (14, true), (15, true), (16, true), (17, false), (18, true), (19, true), (20, true), (21, true), (22, true), (23, false), (24, false), (25, true), (26, true), (27, true)] (by kernel_rfl) (fun c a a' w e h => ⟨e ▸ h.1, h.2⟩) (by kernel_rfl) (show AfterH U1 U1.drew from (Ext.refl U1).drew) ?_
    refine stab_yes rfl (fun K hK => ?_); go_simp; refine ⟨_, fun _ _ => rfl, hK _ ?_⟩; clear hK K
    refine stab_yes rfl (fun K hK => ?_); go_simp; refine ⟨_, fun _ _ => rfl, hK _ ?_⟩; clear hK K
    refine stab_yes rfl (fun K hK => ?_); go_simp; refine ⟨_, fun _ _ => rfl, hK _ ?_⟩; clear hK K
    refine stab_yes rfl (fun K hK => ?_); go_simp; refine ⟨_, fun _ _ => rfl, hK _ ?_⟩; clear hK K
    refine stab_yes rfl (fun K hK => ?_); go_simp; refine ⟨_, fun _ _ => rfl, hK _ ?_⟩; clear hK K
    refine stab_one rfl (fun K hK => ?_)
    go_wp2_with fail
    refine (HSA.out B8 A c8 cb _ (RB1.out _ (Ext.refl U1).drew) (RA1.out _ (Ext.refl U1).drew)).mono ?_
    rintro e v1 ⟨rfl, hv1⟩
    have HV1 := Lib.hid (show AfterH U1 v1 from ((Ext.refl U1).drew).trans hv1)
    clear hv1
    go_wp2_with fail
    refine ⟨fun _ => HV1.out, ?_⟩
    refine stab_yes rfl (fun K hK => ?_); go_simp; refine ⟨_, fun _ _ => rfl, hK _ ?_⟩; clear hK K
    refine stab_yes rfl (fun K hK => ?_); go_simp; refine ⟨_, fun _ _ => rfl, hK _ ?_⟩; clear hK K
    refine stab_yes rfl (fun K hK => ?_); go_simp; refine ⟨_, fun _ _ => rfl, hK _ ?_⟩; clear hK K
    refine stab_yes rfl (fun K hK => ?_); go_simp; refine ⟨_, fun _ _ => rfl, hK _ ?_⟩; clear hK K
    refine stab_yes rfl (fun K hK => ?_); go_simp; refine ⟨_, fun _ _ => rfl, hK _ ?_⟩; clear hK K
    refine stab_yes rfl (fun K hK => ?_); go_simp; refine ⟨_, fun _ _ => rfl, hK _ ?_⟩; clear hK K
    refine stab_one rfl (fun K hK => ?_)
    go_wp2_with fail
    refine (HSB.out X8 M _ cm _ (RM1.out _ HV1.out) (RM0.out _ HV1.out)).mono ?_
    rintro e v2 ⟨rfl, hv2⟩
    have HV2 := Lib.hid (show AfterH U1 v2 from Ext.trans HV1.out hv2)
    clear hv2
    go_wp2_with fail
    refine ⟨fun _ => HV2.out, ?_⟩
    refine stab_yes rfl (fun K hK => ?_); go_simp; refine ⟨_, fun _ _ => rfl, hK _ ?_⟩; clear hK K
    refine stab_yes rfl (fun K hK => ?_); go_simp; refine ⟨_, fun _ _ => rfl, hK _ ?_⟩; clear hK K
    refine stab_load rfl 25 (.tmp 6) rfl (.agg ca) (by first | rfl | go_simp) (fun W hW => L1.out W hW) ?_
    refine stab_yes rfl (fun K hK => ?_); go_simp; refine ⟨_, fun _ _ => rfl, hK _ ?_⟩; clear hK K
    refine stab_one rfl (fun K hK => ?_)
    go_wp2_with fail
    refine (HO.out A cb _ (HXU.out.trans HV2.out) (RA1.out _ HV2.out) hc).mono ?_
    rintro e v3 ⟨c3, rfl, hc3, hv3⟩
    have HV3 := Lib.hid (show AfterH U1 v3 from Ext.trans HV2.out hv3)
    have q1 : ∀ W, (binOp .eql 25 (.agg ca) (.agg c3)).run Tryd.prog W = .ok (.bool true) W := fun W => by
      rw [run_eq_dgc HCA.out hc3 (sha_len _) (sha_len _) (sha_sm _) (sha_sm _) W, decide_eq_true rfl]
    clear hv3 hc3
    go_wp2_with fail
    refine ⟨fun _ => HV3.out, ?_⟩
    refine stab_yes rfl (fun K hK => ?_); go_simp; refine ⟨_, fun _ _ => rfl, hK _ ?_⟩; clear hK K
    refine stab_yes rfl (fun K hK => ?_); go_simp; refine ⟨_, fun _ _ => rfl, hK _ ?_⟩; clear hK K
    refine stab_yes rfl (fun K hK => ?_); go_simp; refine ⟨_, fun _ _ => rfl, hK _ ?_⟩; clear hK K
    refine stab_load rfl 25 (.tmp 7) rfl (.agg cy) (by first | rfl | go_simp) (fun W hW => L2.out W hW) ?_
    refine stab_yes rfl (fun K hK => ?_); go_simp; refine ⟨_, fun _ _ => rfl, hK _ ?_⟩; clear hK K
    refine stab_one rfl (fun K hK => ?_)
    go_wp2_with fail
    have HV4 := Lib.hid (show AfterH U1 (v3.alloc (.cells #[.slice A n cb] 22)) from Ext.alloc HV3.out _)
    refine ⟨fun _ => HV4.out, ?_⟩
    have HRR2 := Lib.hid (show RRd (v3.alloc (.cells #[.slice A n cb] 22)) (some ⟨v3.heap.size, 0, none⟩) [b] from rrd_lit v3 [.slice A n cb] [b] (rowsV_one ⟨A, cb, by rw [HN.out], by rw [HN.out]; exact hc, RA1.out _ HV3.out⟩))
    refine stab_one rfl (fun K hK => ?_)
    go_wp2_with fail
    refine (HP.out _ _ (HXU.out.trans HV4.out) HRR2.out).mono ?_
    rintro e v5 ⟨c5, rfl, hc5, hv5⟩
    have HV5 := Lib.hid (show AfterH U1 v5 from Ext.trans HV4.out hv5)
    have q2 : ∀ W, (binOp .eql 25 (.agg cy) (.agg c5)).run Tryd.prog W = .ok (.bool true) W := fun W => by
      rw [run_eq_dgc HCY.out hc5 (sha_len _) (sha_len _) (sha_sm _) (sha_sm _) W, decide_eq_true rfl]
    clear hv5 hc5
    go_wp2_with fail
    refine ⟨fun _ => HV5.out, ?_⟩
    refine stab_yes rfl (fun K hK => ?_); go_simp; refine ⟨_, fun _ _ => rfl, hK _ ?_⟩; clear hK K
    refine stab_yes rfl (fun K hK => ?_); go_simp; refine ⟨_, fun _ _ => rfl, hK _ ?_⟩; clear hK K
    refine stab_yes rfl (fun K hK => ?_); go_simp; refine ⟨_, fun _ _ => rfl, hK _ ?_⟩; clear hK K
    unfold wpStab
    go_wp2
    go_ret
    exact ⟨rfl, HXU.out.trans HV5.out⟩
  · have hor : decide (300 < (b.length : Int)) = true ∨ (decide (300 < (b.length : Int)) = false ∧ decide (300 < (m.length : Int)) = true) := by
      by_cases h : 300 < (b.length : Int)
      · exact .inl (decide_eq_true h)
      · exact .inr ⟨decide_eq_false h, decide_eq_true (by omega)⟩
    generalize b.length = n at *
    generalize m.length = k at *
    clear C hgl hr hm hc hbig
    rcases hor with d1 | ⟨d1, d2⟩
    all_goals
      go_enter Tryd.func7, Tryd.ntmps7
      go_wp2_with fail
      refine (HAW.out _ (Ext.refl w)).mono ?_
      rintro e w1 ⟨rfl, hx1⟩
      have HX1 := Lib.hid hx1
      clear hx1
      go_wp2_with fail
      refine (HAW.out _ HX1.out).mono ?_
      rintro e w2 ⟨rfl, hx2⟩
      have HX2 := Lib.hid (HX1.out.trans hx2)
      clear hx2
      go_wp2
      go_ret
      exact ⟨rfl, HX2.out⟩
end Go.Proofs.YtfhmafncpodlbaaDoor

/-
  What few of layer 10's laws tells. Conditions: no row takes more than the form's reach.
-/
namespace Go.Proofs.YtfhmafncpodlbaaDoor
open Go.RowKit
open Pol (co Sm)

/-- The lengths of the first rows, added up. -/
def sl (rows : List (List Nat)) : Nat → Nat
  | 0 => 0
  | i + 1 => sl rows i + (ro rows i).length
theorem sl_le {rows : List (List Nat)} {M : Nat} : ∀ i, (∀ j, j < i → (ro rows j).length ≤ M) → sl rows i ≤ i * M
  | 0, _ => Nat.zero_le _
  | i + 1, h => by
    rw [sl, Nat.succ_mul]
    have := sl_le i (fun j hj => h j (by omega))
    have := h i (by omega)
    omega
theorem sl_one {rows : List (List Nat)} : ∀ i j, j < i → (ro rows j).length ≤ sl rows i
  | i + 1, j, h => by
    rw [sl]
    by_cases e : j = i
    · subst e; omega
    · have := sl_one (rows := rows) i j (by omega)
      omega
  | 0, _, h => by omega
def fewP (rows : List (List Nat)) : Prop := rows.length ≤ 20 ∧ sl rows rows.length ≤ 300
instance (rows : List (List Nat)) : Decidable (fewP rows) := inferInstanceAs (Decidable (_ ∧ _))

set_option maxHeartbeats 800000 in
theorem few10 (rows : List (List Nat)) (A : Option Addr) (ca : Nat) (w : World) (hr : RRd w A rows) (hl : rows.length ≤ maxLen) (hls : ∀ i, i < rows.length → (ro rows i).length ≤ 140737488351232) :
    Calls Tryd.prog 12 #[.slice A rows.length ca] w (fun e w' => e = .returned (.bool (decide (fewP rows))) ∧ w = w') := by
  have HR := Lib.hid hr
  have HLS := Lib.hid hls
  have HSL := Lib.hid (fun i => show sl rows (i + 1) = sl rows i + (ro rows i).length from rfl)
  have HS0 := Lib.hid (show sl rows 0 = 0 from rfl)
  have HSB := Lib.hid (fun i (h : i ≤ rows.length) => sl_le (rows := rows) (M := 140737488351232) i (fun j hj => hls j (by omega)))
  have HP := Lib.hid (show fewP rows ↔ rows.length ≤ 20 ∧ sl rows rows.length ≤ 300 from Iff.rfl)
  obtain ⟨b, hb⟩ : ∃ b, decide (fewP rows) = b := ⟨_, rfl⟩
  have HB := Lib.hid (fun (_ : Unit) => hb)
  obtain ⟨n, hn⟩ : ∃ n, rows.length = n := ⟨_, rfl⟩
  have HN := Lib.hid hn
  have hm : (maxLen : Int) = 9223372036854775807 := by decide
  have hl' : (n : Int) ≤ 9223372036854775807 := by rw [← hm]; omega
  rw [hb]
  rw [hn] at HLS HSB HP ⊢
  generalize sl rows = S at HSL HS0 HSB HP
  clear hr hls hl hn hb hm
  go_enter Tryd.func12, Tryd.ntmps12
  go_wp2
  go_loopg [3, 7] n (fun g s3 s7 wx => ∃ (i : Nat) (z : Int), i + g = n ∧ s7 = .int .i64 (i : Int) ∧ s3 = .int .i64 z ∧ (i ≤ 20 → z = ((S i : Nat) : Int)) ∧ wx = w)
  case atStart => exact ⟨0, 0, by omega, rfl, rfl, fun _ => by rw [HS0.out]; rfl, rfl⟩
  case round =>
    obtain ⟨i, z, hig, rfl, rfl, hz, rfl⟩ := hrel
    cases gk with
    | zero =>
      obtain rfl : i = n := by omega
      by_cases h20 : i ≤ 20
      · have hz' := hz h20
        have d1 : decide ((i : Int) ≤ 20) = true := decide_eq_true (by omega)
        have d2 : decide (z ≤ 300) = b := by
          rw [← HB.out ()]
          by_cases h : S i ≤ 300
          · rw [decide_eq_true (by omega), decide_eq_true (HP.out.2 ⟨h20, h⟩)]
          · rw [decide_eq_false (by omega), decide_eq_false (fun h2 => h (HP.out.1 h2).2)]
        clear hz hz'
        go_wp2
        go_ret
        exact ⟨rfl, rfl⟩
      · have d1 : decide ((i : Int) ≤ 20) = false := decide_eq_false (by omega)
        have d2 : false = b := by
          rw [← HB.out (), decide_eq_false (fun h2 => h20 (HP.out.1 h2).1)]
        clear hz
        subst d2
        go_wp2
        go_ret
        exact ⟨rfl, rfl⟩
    | succ g =>
      have hi : i < n := by omega
      have hiI : (i : Int) < (n : Int) := by omega
      obtain ⟨b1, o1, R1, c1, rfl, hc1, hl1, _⟩ := HR.out i (by rw [HN.out]; exact hi)
      have HL1 := Lib.hid (HLS.out i hi)
      have HSI := Lib.hid (HSL.out i)
      have HBI := Lib.hid (HSB.out i (by omega))
      obtain ⟨k, hk⟩ : ∃ k, (ro rows i).length = k := ⟨_, rfl⟩
      rw [hk] at hc1 HL1 HSI
      have HIG := Lib.hid hig
      have HZ := Lib.hid hz
      clear hk hz hig hl1
      go_wp2
      go_roundg g
      case measure => omega
      case rel => exact ⟨i + 1, wrap64 (z + (k : Int)), by have := HIG.out; omega, by go_num, rfl, fun h => by
        have hz := HZ.out (by omega)
        have := HSI.out
        have := HBI.out
        have := HL1.out
        have h20 : i * 140737488351232 ≤ 20 * 140737488351232 := Nat.mul_le_mul_right _ (by omega)
        rw [hz, HSI.out]
        unfold wrap64
        omega, rfl⟩
end Go.Proofs.YtfhmafncpodlbaaDoor

/-
  The statements' own comparison of lists of rows tells lists that are unlike from those that are alike. Conditions: no more than 2^20 rows of 2^20 bytes.
-/
namespace Go.Proofs.YtfhmafncpodlbaaDoor
open Go.RowKit
open Pol (co Sm)

set_option maxHeartbeats 1600000 in
set_option maxRecDepth 100000 in
theorem lists9 (rows mows : List (List Nat)) (A B : Option Addr) (ca cb : Nat) (w : World) (ha : RRd w A rows) (hb : RRd w B mows) (hl : rows.length ≤ 1048576) (hls : ∀ i, i < rows.length → (ro rows i).length ≤ 1048576) :
    Calls Tryd.prog 16 #[.slice A rows.length ca, .slice B mows.length cb] w (Hands (.bool (decide (rows = mows))) w) := by
  by_cases hlm : rows.length = mows.length
  · obtain ⟨v, hv⟩ : ∃ v, decide (rows = mows) = v := ⟨_, rfl⟩
    have HT := Lib.hid (fun (h : ∀ j, j < rows.length → ro rows j = ro mows j) => show v = true from by rw [← hv]; exact decide_eq_true (ro_ext hlm h))
    have HF := Lib.hid (fun j (h : ro rows j ≠ ro mows j) => show v = false from by rw [← hv]; exact decide_eq_false (fun e => h (by rw [e])))
    rw [hv, ← hlm]
    have HA := Lib.hid ha
    have HB := Lib.hid hb
    obtain ⟨n, hn⟩ : ∃ n, rows.length = n := ⟨_, rfl⟩
    have HN := Lib.hid hn
    have HM := Lib.hid (show mows.length = n from by rw [← hlm, hn])
    rw [hn] at hl hls HT ⊢
    have HLS := Lib.hid hls
    clear ha hb hn hls hv hlm
    go_enter Tryd.func16, Tryd.ntmps16
    go_wp2
    go_loopg [14] n (fun g s wx => ∃ i m : Nat, i + g = n ∧ s = .int .i64 (i : Int) ∧ wx = w.drewN m ∧ ∀ j, j < i → ro rows j = ro mows j)
    case atStart => exact ⟨0, 0, by omega, rfl, rfl, fun j hj => by omega⟩
    case round =>
      obtain ⟨i, m, hig, rfl, rfl, hsame⟩ := hrel
      have HSAME := Lib.hid hsame
      clear hsame
      cases gk with
      | zero =>
        obtain rfl : i = n := by omega
        have hv := HT.out HSAME.out
        subst hv
        clear hig HF HT
        go_wp2
        go_ret
        exact ⟨rfl, m, rfl⟩
      | succ g =>
        have hi : i < n := by omega
        have hiI : (i : Int) < (n : Int) := by omega
        obtain ⟨b1, o1, R1, c1, rfl, hc1, hl1, hr1⟩ := HA.out i (by rw [HN.out]; exact hi)
        obtain ⟨b2, o2, R2, c2, rfl, hc2, hl2, hr2⟩ := HB.out i (by rw [HM.out]; exact hi)
        have HFI := Lib.hid (HF.out i)
        have HIG := Lib.hid hig
        have HTK := Lib.hid (HLS.out i hi)
        obtain ⟨t, ht⟩ : ∃ t, ro rows i = t := ⟨_, rfl⟩
        obtain ⟨u, hu⟩ : ∃ u, ro mows i = u := ⟨_, rfl⟩
        have HTE := Lib.hid (fun (_ : Unit) => ht)
        have HUE := Lib.hid (fun (_ : Unit) => hu)
        rw [ht] at hc1 hr1 hl1 HFI HTK
        rw [hu] at hc2 hr2 hl2 HFI
        obtain ⟨k, hk⟩ : ∃ k, t.length = k := ⟨_, rfl⟩
        obtain ⟨k', hk'⟩ : ∃ k, u.length = k := ⟨_, rfl⟩
        rw [hk] at hc1 hl1 HTK
        rw [hk'] at hc2 hl2
        have HR1 := Lib.hid hr1
        have HR2 := Lib.hid hr2
        have HK := Lib.hid hk
        have HK' := Lib.hid hk'
        have hkl : k ≤ 1048576 := HTK.out
        by_cases hkk : k = k'
        · subst hkk
          have hkb : ((k : Int) != (k : Int)) = false := by simp
          clear hr1 hr2 hk hk' ht hu hig
          go_wp2
          go_quiet (fail)
          go_wp2
          go_loopg [33] k (fun g s wx => ∃ j m : Nat, j + g = k ∧ s = .int .i64 (j : Int) ∧ wx = w.drewN m ∧ ∀ q, q < j → co t q = co u q)
          case atStart => exact ⟨0, _, by omega, rfl, rfl, fun q hq => by omega⟩
          case round =>
            obtain ⟨j, m2, hjg, rfl, rfl, hs2⟩ := hrel
            have HS2 := Lib.hid hs2
            clear hs2
            cases gk with
            | zero =>
              obtain rfl : j = k := by omega
              have HNX := Lib.hid (fun q (hq : q < i + 1) => show ro rows q = ro mows q from by
                by_cases e : q = i
                · subst e
                  rw [HTE.out (), HUE.out ()]
                  exact Lin.list_ext (by rw [HK.out, HK'.out]) (fun q hq => HS2.out q (by rw [HK.out] at hq; exact hq))
                · exact HSAME.out q (by omega))
              clear hjg
              go_wp2
              go_roundg g
              case measure => omega
              case rel => exact ⟨i + 1, m2, by have := HIG.out; omega, by go_num, rfl, HNX.out⟩
            | succ g2 =>
              have hj : j < k := by omega
              have hjI : (j : Int) < (k : Int) := by omega
              obtain ⟨b3, o3, rfl, hc3⟩ := HR1.out.2 j (by rw [HK.out]; exact hj)
              obtain ⟨b4, o4, rfl, hc4⟩ := HR2.out.2 j (by rw [HK'.out]; exact hj)
              have HJG := Lib.hid hjg
              obtain ⟨x, hx⟩ : ∃ x, co t j = x := ⟨_, rfl⟩
              obtain ⟨y, hy⟩ : ∃ y, co u j = y := ⟨_, rfl⟩
              rw [hx] at hc3
              rw [hy] at hc4
              by_cases hxy : x = y
              · have d6 : ((x : Int) != (y : Int)) = false := by subst hxy; simp
                have HNX := Lib.hid (fun q (hq : q < j + 1) => show co t q = co u q from by
                  by_cases e : q = j
                  · subst e; rw [hx, hy, hxy]
                  · exact HS2.out q (by omega))
                clear hx hy hxy hjg
                go_wp2
                go_quiet (fail)
                go_wp2
                go_roundg g2
                case measure => omega
                case rel => exact ⟨j + 1, _, by have := HJG.out; omega, by go_num, rfl, HNX.out⟩
              · have d6 : ((x : Int) != (y : Int)) = true := by simp; omega
                have hv := HFI.out (fun e => hxy (by rw [← hx, ← hy, e]))
                subst hv
                clear hx hy hxy hjg HF HT HFI
                go_wp2
                go_quiet (fail)
                go_wp2
                go_ret
                exact ⟨rfl, m2 + nq, by rw [World.drewN_drewN]⟩
        · have hkb : ((k : Int) != (k' : Int)) = true := by simp; omega
          have hv := HFI.out (fun e => hkk (by rw [← hk, ← hk', e]))
          subst hv
          clear hr1 hr2 hk hk' ht hu hig hkk HF HT HFI
          go_wp2
          go_quiet (fail)
          go_wp2
          go_ret
          exact ⟨rfl, m + nq, by rw [World.drewN_drewN]⟩
  · have t : ((rows.length : Int) != (mows.length : Int)) = true := by simp; omega
    rw [decide_eq_false (fun e => hlm (by rw [e]))]
    generalize rows.length = n at *
    generalize mows.length = n' at *
    clear ha hb hls
    go_enter Tryd.func16, Tryd.ntmps16
    go_wp2
    go_ret
    exact ⟨rfl, 0, rfl⟩
end Go.Proofs.YtfhmafncpodlbaaDoor

/-
  An argument that is a slice of bytes, or of points, reads as a list. Conditions: none.
-/
namespace Go.Proofs.YtfhmafncpodlbaaDoor
open Go.RowKit
open Go.ChangeShapes Go.WideShapes Go.ChangeAt
open Pol (co Sm)

section
variable {H : Type} {enc : TypeId × Value → H} {w : World} {base : Nat} {spare : Nat → Bool} {held : Bool}
theorem open_bytes {fuel len cap : Nat} {a : Option Addr} {x : DataW H × List MemPlace} (h : DataW.trod enc Tryd.prog w base spare held fuel 22 [.slice a len cap] = some x) :
    ∃ l : List Nat, l.length = len ∧ len ≤ cap ∧ Rd w a l := by
  rcases open_ints Tryd.underlying22 Tryd.underlying5 (by kernel_rfl) h with ⟨hcs, _⟩ | ⟨a', len', cap', zs, hcs, _, hl, _, hz, _, hcell, hwz⟩
  · simp at hcs
    obtain ⟨rfl, rfl, rfl⟩ := hcs
    exact ⟨[], rfl, Nat.le_refl _, Rd.nil _ _⟩
  · simp at hcs
    obtain ⟨rfl, rfl, rfl⟩ := hcs
    have hlz : len ≤ zs.length := by rw [hz]; split <;> omega
    have hnat : ∀ i, i < zs.length → ∃ n : Nat, zs.getD i 0 = (n : Int) ∧ n < 256 := fun i hi => by
      have hm : zs.getD i 0 ∈ zs := by rw [List.getD_eq_getElem?_getD, List.getElem?_eq_getElem hi]; exact List.getElem_mem hi
      exact nat_u8 (hwz _ hm)
    refine ⟨(List.range len).map (fun i => (zs.getD i 0).toNat), by simp, hl, ?_, fun i hi => ?_⟩
    · refine Pol.co_lt_of (fun v hv => ?_)
      obtain ⟨i, hi, rfl⟩ := List.mem_map.1 hv
      obtain ⟨n, hn, hn'⟩ := hnat i (by have := List.mem_range.1 hi; omega)
      show (zs.getD i 0).toNat < 256
      rw [hn]; omega
    · have hi' : i < len := by simpa using hi
      obtain ⟨b, o, rfl, hc⟩ := ints_at hcell (by omega)
      refine ⟨b, o, rfl, ?_⟩
      rw [hc i (by omega)]
      obtain ⟨n, hn, _⟩ := hnat i (by omega)
      congr 2
      unfold co
      rw [List.getElem?_map, List.getElem?_range hi']
      show zs.getD i 0 = (((zs.getD i 0).toNat : Nat) : Int)
      rw [hn]; omega
end
end Go.Proofs.YtfhmafncpodlbaaDoor

/-
  An argument that is a slice of slices of bytes reads as a list of rows. Conditions: none.
-/
namespace Go.Proofs.YtfhmafncpodlbaaDoor
open Go.RowKit
open Go.ChangeShapes Go.WideShapes Go.ChangeAt
open Pol (co Sm)

/-- Rows as they come in. -/
def ARd (w : World) (A : Option Addr) (rows : List (List Nat)) : Prop := RRd w A rows ∧ rows.length ≤ maxLen
section
variable {H : Type} {enc : TypeId × Value → H} {w : World} {base : Nat} {spare : Nat → Bool} {held : Bool}
theorem open_rows {fuel len cap : Nat} {a : Option Addr} {x : DataW H × List MemPlace} (h : DataW.trod enc Tryd.prog w base spare held fuel 28 [.slice a len cap] = some x) :
    ∃ l : List (List Nat), l.length = len ∧ len ≤ cap ∧ ARd w a l := by
  rcases Go.Deep.open_slice1 Tryd.underlying28 (by kernel_rfl) h with ⟨hcs, _⟩ | ⟨a', len', cap', m, n, V, D, Pl, hcs, _, hl, hmax, hm, _, hall⟩
  · simp at hcs
    obtain ⟨rfl, rfl, rfl⟩ := hcs
    exact ⟨[], rfl, Nat.le_refl _, RRd.nil _ _, Nat.zero_le _⟩
  · simp at hcs
    obtain ⟨rfl, rfl, rfl⟩ := hcs
    have hlm : len ≤ m := by rw [hm]; split <;> omega
    have each : ∀ i, i < len → ∃ q : List Nat, ∃ B c, w.cell? (a'.add i) = some (.slice B q.length c) ∧ q.length ≤ c ∧ Rd w B q := fun i hi => by
      obtain ⟨hc, ht⟩ := hall i (by omega)
      obtain ⟨B, nb, cb, hv⟩ : ∃ B nb cb, V i = .slice B nb cb := by
        rcases Go.Deep.open_slice Tryd.underlying22 ht with ⟨e, _⟩ | ⟨a2, l2, c2, _, _, _, _, e, _⟩
        · exact ⟨none, 0, 0, by simpa using e⟩
        · exact ⟨some a2, l2, c2, by simpa using e⟩
      rw [hv] at ht hc
      obtain ⟨q, hq, hqc, hqr⟩ := open_bytes ht
      exact ⟨q, B, cb, by rw [hq]; exact hc, by rw [hq]; exact hqc, hqr⟩
    obtain ⟨q, hq⟩ := Go.Deep.choose_lt each
    have hat : ∀ i, i < len → ro ((List.range len).map q) i = q i := fun i hi => by unfold ro; rw [List.getElem?_map, List.getElem?_range hi]; rfl
    refine ⟨(List.range len).map q, by simp, hl, fun i hi => ?_, by rw [List.length_map, List.length_range]; omega⟩
    have hi' : i < len := by simpa using hi
    obtain ⟨B, c, h1, h2, h3⟩ := hq i hi'
    obtain ⟨b, o, spot⟩ := a'
    have hspot : spot = none := by
      obtain ⟨_, _, h0, _⟩ := hq 0 (by omega)
      simpa [Addr.add] using World.cell?_spot h0
    subst hspot
    rw [hat i hi']
    exact ⟨b, o, B, c, rfl, by rw [← Addr.add_mid]; exact h1, h2, h3⟩
end
end Go.Proofs.YtfhmafncpodlbaaDoor

/-
  An argument that is a slice of slices of bytes: no row takes more than the form's reach. Conditions: none.
-/
namespace Go.Proofs.YtfhmafncpodlbaaDoor
open Go.RowKit
open Go.ChangeShapes Go.WideShapes Go.ChangeAt
open Pol (co Sm)

theorem weights_mem_all {H : Type} {P : Program} {e : TypeId} {n : Nat} : ∀ {ds : List (DataW H)} {d : DataW H}, d ∈ ds → n ∈ d.weights P e → n ∈ DataW.weightsAll P e ds
  | [], _, h, _ => by simp at h
  | x :: r, d, h, hn => by
    rcases List.mem_cons.1 h with rfl | h
    · simp only [DataW.weightsAll, List.mem_append]
      exact .inl hn
    · simp only [DataW.weightsAll, List.mem_append]
      exact .inr (weights_mem_all h hn)
/-- Rows as they come in, each within the form's reach. -/
def SRd (w : World) (A : Option Addr) (rows : List (List Nat)) : Prop := ARd w A rows ∧ ∀ i, i < rows.length → (ro rows i).length ≤ reachBytes
section
variable {H : Type} {enc : TypeId × Value → H} {w : World} {base : Nat} {spare : Nat → Bool} {held : Bool}
theorem open_srows {ts : List TypeId} {ds : List (DataW H)} {j fuel len cap : Nat} {a : Option Addr} {d : DataW H} {p : List MemPlace} (hsz : (DataW.weightsEach Tryd.prog ts ds).all (· ≤ reachBytes) = true) (ht : ts[j]? = some 28) (hd : ds[j]? = some d)
    (h : DataW.trod enc Tryd.prog w base spare held fuel 28 [.slice a len cap] = some (d, p)) : ∃ l : List (List Nat), l.length = len ∧ len ≤ cap ∧ SRd w a l := by
  rcases Go.Deep.open_slice1 Tryd.underlying28 (by kernel_rfl) h with ⟨hcs, _⟩ | ⟨a', len', cap', m, n, V, D, Pl, hcs, _, hl, hmax, hm, hx, hall⟩
  · simp at hcs
    obtain ⟨rfl, rfl, rfl⟩ := hcs
    exact ⟨[], rfl, Nat.le_refl _, ⟨RRd.nil _ _, Nat.zero_le _⟩, fun i hi => absurd hi (by simp)⟩
  · simp at hcs
    obtain ⟨rfl, rfl, rfl⟩ := hcs
    injection hx with hx _
    subst hx
    have hlm : len ≤ m := by rw [hm]; split <;> omega
    have each : ∀ i, i < len → ∃ q : List Nat, ∃ B c, w.cell? (a'.add i) = some (.slice B q.length c) ∧ q.length ≤ c ∧ Rd w B q ∧ q.length ≤ reachBytes := fun i hi => by
      obtain ⟨hc, ht'⟩ := hall i (by omega)
      have hw : ∀ x, x ∈ (D i).weights Tryd.prog 22 → x ≤ reachBytes := fun x hx => by
        have hmem : D i ∈ (List.range len).map D := List.mem_map.2 ⟨i, List.mem_range.2 hi, rfl⟩
        have h1 := weights_mem_all (P := Tryd.prog) (e := 22) hmem hx
        have h2 := DataW.weights_mem_each (P := Tryd.prog) ht hd x (by
          simp only [DataW.weights, Tryd.underlying28, List.mem_cons, List.mem_append]
          exact .inr (.inl h1))
        simpa using List.all_eq_true.1 hsz x h2
      obtain ⟨B, nb, cb, hv, hr⟩ : ∃ B nb cb, V i = .slice B nb cb ∧ nb ≤ reachBytes := by
        rcases Go.Deep.open_slice Tryd.underlying22 ht' with ⟨e, _⟩ | ⟨a2, l2, c2, m2, _, D2, _, e, _, _, _, hm2, hx2, _⟩
        · exact ⟨none, 0, 0, by simpa using e, Nat.zero_le _⟩
        · refine ⟨some a2, l2, c2, by simpa using e, ?_⟩
          injection hx2 with hx2 _
          have := hw ((l2 + (m2 - l2)) * Tryd.prog.bytesOf 5) (by rw [hx2]; simp [DataW.weights, Tryd.underlying22])
          rw [show Tryd.prog.bytesOf 5 = 1 from by kernel_rfl] at this
          omega
      rw [hv] at ht' hc
      obtain ⟨q, hq, hqc, hqr⟩ := open_bytes ht'
      exact ⟨q, B, cb, by rw [hq]; exact hc, by rw [hq]; exact hqc, hqr, by rw [hq]; exact hr⟩
    obtain ⟨q, hq⟩ := Go.Deep.choose_lt each
    have hat : ∀ i, i < len → ro ((List.range len).map q) i = q i := fun i hi => by unfold ro; rw [List.getElem?_map, List.getElem?_range hi]; rfl
    refine ⟨(List.range len).map q, by simp, hl, ⟨fun i hi => ?_, by rw [List.length_map, List.length_range]; omega⟩, fun i hi => ?_⟩
    · have hi' : i < len := by simpa using hi
      obtain ⟨B, c, h1, h2, h3, _⟩ := hq i hi'
      obtain ⟨b, o, spot⟩ := a'
      have hspot : spot = none := by
        obtain ⟨_, _, h0, _⟩ := hq 0 (by omega)
        simpa [Addr.add] using World.cell?_spot h0
      subst hspot
      rw [hat i hi']
      exact ⟨b, o, B, c, rfl, by rw [← Addr.add_mid]; exact h1, h2, h3⟩
    · have hi' : i < len := by simpa using hi
      obtain ⟨_, _, _, _, _, h4⟩ := hq i hi'
      rw [hat i hi']
      exact h4
end
end Go.Proofs.YtfhmafncpodlbaaDoor

/-
  What the document's own turn, Less and Join of layer 10 do. Conditions: no more than 2^16 bytes.
-/
namespace Go.Proofs.YtfhmafncpodlbaaDoor
open Go.RowKit
open Pol (co Sm)

set_option maxHeartbeats 400000 in
theorem ref10_turn (x n : Nat) (w : World) (hx : x < 4294967296) (hn : n < 32) :
    Calls Tryd.prog 25 #[.int .u32 (x : Int), .int .u64 (n : Int)] w (fun e w' => e = .returned (.int .u32 ((tw x n : Nat) : Int)) ∧ w = w') := by
  obtain ⟨m, hm⟩ : ∃ m, 32 - n = m := ⟨_, rfl⟩
  obtain ⟨q, hq⟩ : ∃ q, x / 2 ^ n = q := ⟨_, rfl⟩
  obtain ⟨y, hy⟩ : ∃ y, x * 2 ^ m % 4294967296 = y := ⟨_, rfl⟩
  obtain ⟨z, hz⟩ : ∃ z, tw x n = z := ⟨_, rfl⟩
  have e1 : IntKind.u64.wrap (32 - (n : Int)) = (m : Int) := by rw [IntKind.wrap_u64]; omega
  have e1' : 32 - (n : Int) = (m : Int) := by omega
  have e2 : (x : Int) / 2 ^ n = (q : Int) := by rw [← hq]; simp
  have e3 : IntKind.u32.wrap ((x : Int) * 2 ^ m) = (y : Int) := by
    rw [IntKind.wrap_u32, ← hy]
    simp
  have hqb : q < 4294967296 := by rw [← hq]; exact Nat.lt_of_le_of_lt (Nat.div_le_self _ _) hx
  have hyb : y < 4294967296 := by rw [← hy]; exact Nat.mod_lt _ (by decide)
  have e4 : bits .or .u32 (q : Int) (y : Int) = (z : Int) := by
    rw [u32_or_nat q y hqb hyb, ← hz]
    unfold tw
    rw [hm, hq, hy]
  rw [hz]
  clear hm hq hy hz
  go_enter Tryd.func25, Tryd.ntmps25
  go_wp2
  go_ret
  exact ⟨rfl, rfl⟩

set_option maxHeartbeats 800000 in
set_option maxRecDepth 100000 in
theorem ref10_join (rows : List (List Nat)) (A : Option Addr) (ca : Nat) (w : World) (hr : RRd w A rows) (hl : rows.length ≤ 1024) (hls : ∀ i, i < rows.length → (ro rows i).length ≤ 1024) :
    Calls Tryd.prog 13 #[.slice A rows.length ca] w (OwnE (jn rows) w) := by
  unfold OwnE
  have HR := Lib.hid hr
  have HSM := Lib.hid (fun i (hi : i < rows.length) => show Sm (ro rows i) from hr.sm _ (ro_in rows i hi))
  have HT := Lib.hid (fun t A c W (h : Rd W A t) (h2 : t.length ≤ 1048576) => ref8_text t A c W h h2)
  have HTK := Lib.hid (fun i (hi : i < rows.length) => show jn (rows.take (i + 1)) = jn (rows.take i) ++ vt (ro rows i) from by
    rw [List.take_succ_eq_append_getElem hi, jn_snoc, show ro rows i = rows[i] from by unfold ro; rw [List.getElem?_eq_getElem hi]; rfl])
  have HLS := Lib.hid hls
  obtain ⟨n, hn⟩ : ∃ n, rows.length = n := ⟨_, rfl⟩
  have HN := Lib.hid hn
  have HALL := Lib.hid (show rows.take n = rows from by rw [← hn, List.take_length])
  rw [hn] at hl HSM HTK HLS ⊢
  unfold OwnE at HT
  clear hr hn hls
  go_enter Tryd.func13, Tryd.ntmps13
  go_wp2
  go_loopg [3, 7] n (fun g s3 s7 wx => ∃ i : Nat, i + g = n ∧ s7 = .int .i64 (i : Int) ∧ Mine wx w.heap.size s3 (jn (rows.take i)) ∧ Sm (jn (rows.take i)) ∧ (jn (rows.take i)).length ≤ 1034 * i ∧ Ext w wx)
  case atStart => exact ⟨0, by omega, rfl, Mine.nil _ _, Sm.nil, Nat.zero_le _, Ext.refl _⟩
  case round =>
    obtain ⟨i, hig, rfl, hm, hsm, hlen, hx⟩ := hrel
    have HM := Lib.hid hm
    have HX := Lib.hid hx
    have HS := Lib.hid hsm
    obtain ⟨B3, c3, rfl, hc3, _⟩ := hm.slice hsm
    cases gk with
    | zero =>
      obtain rfl : i = n := by omega
      rw [HALL.out] at HM ⊢
      clear hm hsm hx hig
      go_wp2
      go_ret
      exact ⟨_, rfl, HM.out, HX.out⟩
    | succ g =>
      have hi : i < n := by omega
      have hiI : (i : Int) < (n : Int) := by omega
      obtain ⟨b1, o1, R1, c1, rfl, hc1, hl1, hr1⟩ := (HR.out.ext hx) i (by rw [HN.out]; exact hi)
      have HTI := Lib.hid (HT.out (ro rows i) R1 c1 wr hr1 (by have := HLS.out i hi; omega))
      have HTKI := Lib.hid (HTK.out i hi)
      have hst := vt_sm (HSM.out i hi)
      have hvl : (vt (ro rows i)).length ≤ 1034 := by
        unfold vt
        rw [List.length_append]
        have := HLS.out i hi
        have := vn_ten (n := (ro rows i).length) (by omega)
        omega
      obtain ⟨t, ht⟩ : ∃ t, ro rows i = t := ⟨_, rfl⟩
      rw [ht] at hc1 hl1 HTI HTKI hst hvl
      obtain ⟨nt, hnt⟩ : ∃ nt, t.length = nt := ⟨_, rfl⟩
      rw [hnt] at hc1 hl1 HTI
      obtain ⟨J, hJ⟩ : ∃ J, (jn (rows.take i)).length = J := ⟨_, rfl⟩
      have HJ := Lib.hid hJ
      rw [hJ] at hlen hc3 HM ⊢
      have hs := hx.size
      have HST := Lib.hid hst
      have HVL := Lib.hid hvl
      have HIG := Lib.hid hig
      have hJb : J ≤ 1034 * 1024 := Nat.le_trans hlen (Nat.mul_le_mul_left _ (by omega))
      have HLEN := Lib.hid hlen
      clear hm hsm hx hr1 ht hnt hJ hst hvl hig hlen
      go_wp2_with fail
      refine HTI.out.mono ?_
      rintro e w1 ⟨v1, rfl, hm1, hx1⟩
      obtain ⟨B1, cc1, rfl, hcc1, hrv1⟩ := hm1.slice HST.out
      have HX1 := Lib.hid (HX.out.trans hx1)
      have HM1 := Lib.hid (mine_ext HM.out hx1)
      have HRV := Lib.hid hrv1
      obtain ⟨V, hV⟩ : ∃ V, (vt t).length = V := ⟨_, rfl⟩
      have HV := Lib.hid hV
      have hVb : V ≤ 1034 := by rw [← hV]; exact HVL.out
      have hs1 := hx1.size
      rw [hV] at hcc1 ⊢
      clear hm1 hx1 hrv1 hV
      go_wp2_with (at_builtin; refine wpList_append_rd rfl (.tmp 10) (.tmp 15) rfl w.heap.size (.slice B3 J c3) (jn (rows.take i)) (vt t) rfl HM1.out B1 V cc1 rfl HV.out HRV.out (by rw [HJ.out, HV.out]; omega) (by omega) ?_; intro v7 w7 hown7 hg7 hat7; rw [← HTKI.out] at hown7; have HX7 := Lib.hid (HX1.out.more hg7 (fun q hq => (HM1.out.block q hq).1)); have HM7 := Lib.hid hown7; clear hown7 hg7 hat7)
      go_roundg g
      case measure => omega
      case rel => exact ⟨i + 1, by have := HIG.out; omega, by go_num, HM7.out, by rw [HTKI.out]; exact sm_app HS.out HST.out, by rw [HTKI.out, List.length_append, HJ.out, HV.out]; have := HLEN.out; omega, HX7.out⟩
end Go.Proofs.YtfhmafncpodlbaaDoor

/-
  The law ShaParts, walked, under what layer 10's functions are to do. Conditions: no row takes more than the form's reach.
-/
namespace Go.Proofs.YtfhmafncpodlbaaDoor
open Go.RowKit
open Pol (co Sm)

theorem jn_len_le : ∀ rows : List (List Nat), (∀ i, i < rows.length → (ro rows i).length ≤ 300) → (jn rows).length ≤ 310 * rows.length
  | [], _ => Nat.zero_le _
  | t :: ls, h => by
    rw [jn_cons, List.length_append, List.length_cons]
    have h0 : t.length ≤ 300 := h 0 (by simp)
    have ih := jn_len_le ls (fun i hi => h (i + 1) (by simpa using hi))
    have hv : (vt t).length ≤ 310 := by
      unfold vt
      rw [List.length_append]
      have := vn_ten (n := t.length) (by omega)
      omega
    omega
theorem jn_sm : ∀ rows : List (List Nat), (∀ r ∈ rows, Sm r) → Sm (jn rows)
  | [], _ => Sm.nil
  | t :: ls, h => by
    rw [jn_cons]
    exact sm_app (vt_sm (h t (by simp))) (jn_sm ls (fun r hr => h r (by simp [hr])))
theorem wpList_load_row_g {P : Program} {ops : Array Oper} {rest : List Oper} {o : Oper} {a : Act} {w : World} {Q : Exit → Act → World → Prop} (hgd : Region.wanted o (yielded ops a.tmps) = true) (ty : TypeId) (x : Operand) (ho : o.op = .load ty x)
    (g : Nat) (hx : a.eval x = .pointer (some ⟨g, 0, none⟩)) (t : TypeId) (cs : Array Value) (fr : Nat × Nat) (d : TypeDesc) (hg : w.heap[g]? = some (.cells cs t fr))
    (hu : P.underlying ty = some d) (hd : (match d with | .struct _ | .array _ _ => true | _ => false) = true) (hi : (P.info? ty).map (·.size) = some cs.size)
    (h : wpList P ops Q rest (a.put o.dst (.agg cs)) w) : wpList P ops Q (o :: rest) a w := by
  unfold wpList
  rw [if_pos hgd]
  exact .inl (wp_load_row ty x ho g hx t cs fr d hg hu hd hi h)
theorem wpIf_load_row {P : Program} {ops : Array Oper} {o : Oper} {a : Act} {w : World} {K : Act → World → Prop} {Q : Exit → Act → World → Prop} {E : Prop} (hgd : Region.wanted o (yielded ops a.tmps) = true) (ty : TypeId) (x : Operand) (ho : o.op = .load ty x)
    (g : Nat) (hx : a.eval x = .pointer (some ⟨g, 0, none⟩)) (t : TypeId) (cs : Array Value) (fr : Nat × Nat) (d : TypeDesc) (hg : w.heap[g]? = some (.cells cs t fr))
    (hu : P.underlying ty = some d) (hd : (match d with | .struct _ | .array _ _ => true | _ => false) = true) (hi : (P.info? ty).map (·.size) = some cs.size)
    (h : K (a.put o.dst (.agg cs)) w) : if Region.wanted o (yielded ops a.tmps) = true then Oper.wp P o a w K Q else E := by
  rw [if_pos hgd]
  exact wp_load_row ty x ho g hx t cs fr d hg hu hd hi h
theorem run_ne_dgc {c d : Array Value} {a b : List Nat} (hc : Dgc c a) (hd : Dgc d b) (ha : a.length = 32) (hb : b.length = 32) (hsa : Sm a) (hsb : Sm b) (W : World) : (binOp .neq 25 (.agg c) (.agg d)).run Tryd.prog W = .ok (.bool (!decide (a = b))) W := by
  simp only [binOp]
  simp [Op.equal, Op.maxDepth, eq_dgc hc hd ha hb hsa hsb W]
set_option maxHeartbeats 3200000 in
set_option maxRecDepth 100000 in
theorem parts10_walk (C : ShaSaid) (rows mows : List (List Nat)) (A B : Option Addr) (ca cb : Nat) (w : World) (hgl : GL w) (hr : SRd w A rows) (hc : rows.length ≤ ca) (hk : SRd w B mows) (hck : mows.length ≤ cb) :
    Calls Tryd.prog 4 #[.slice A rows.length ca, .slice B mows.length cb] w (Holds w) := by
  have HAW := Lib.hid (fun W (h : Ext w W) => awake10 C W (hgl.ext h))
  have HF1 := Lib.hid (fun W (h : Ext w W) => few10 rows A ca W (hr.1.1.ext h) hr.1.2 (fun i hi => hr.2 i hi))
  have HF2 := Lib.hid (fun W (h : Ext w W) => few10 mows B cb W (hk.1.1.ext h) hk.1.2 (fun i hi => hk.2 i hi))
  by_cases h1 : fewP rows
  · rw [decide_eq_true h1] at HF1
    by_cases h2 : fewP mows
    · rw [decide_eq_true h2] at HF2
      have l1 : ∀ i, i < rows.length → (ro rows i).length ≤ 300 := fun i hi => Nat.le_trans (sl_one _ i hi) h1.2
      have l2 : ∀ i, i < mows.length → (ro mows i).length ≤ 300 := fun i hi => Nat.le_trans (sl_one _ i hi) h2.2
      have n1 := h1.1
      have n2 := h2.1
      have j1 : (jn rows).length ≤ 6200 := Nat.le_trans (jn_len_le rows l1) (by omega)
      have j2 : (jn mows).length ≤ 6200 := Nat.le_trans (jn_len_le mows l2) (by omega)
      have s1 := jn_sm rows hr.1.1.sm
      have s2 := jn_sm mows hk.1.1.sm
      have HJ1 := Lib.hid (fun W (h : Ext w W) => ref10_join rows A ca W (hr.1.1.ext h) (by omega) (fun i hi => by have := l1 i hi; omega))
      have HJ2 := Lib.hid (fun W (h : Ext w W) => ref10_join mows B cb W (hk.1.1.ext h) (by omega) (fun i hi => by have := l2 i hi; omega))
      have HP1 := Lib.hid (fun W (h : Ext w W) => C.parts rows A ca W (hgl.ext h) (hr.1.1.ext h) hc (by omega) (fun i hi => by have := l1 i hi; omega) (by omega))
      have HP2 := Lib.hid (fun W (h : Ext w W) => C.parts mows B cb W (hgl.ext h) (hk.1.1.ext h) hck (by omega) (fun i hi => by have := l2 i hi; omega) (by omega))
      have HO1 := Lib.hid (fun X c W (h : Ext w W) (hX : Rd W X (jn rows)) (hcX : (jn rows).length ≤ c) => C.of (jn rows) X c W (hgl.ext h) hX hcX (by omega))
      have HO2 := Lib.hid (fun X c W (h : Ext w W) (hX : Rd W X (jn mows)) (hcX : (jn mows).length ≤ c) => C.of (jn mows) X c W (hgl.ext h) hX hcX (by omega))
      have HLI := Lib.hid (fun W (h : Ext w W) => lists9 rows mows A B ca cb W (hr.1.1.ext h) (hk.1.1.ext h) (by omega) (fun i hi => by have := l1 i hi; omega))
      have HSA := Lib.hid (fun X Y cx cy W (hX : Rd W X (jn rows)) (hY : Rd W Y (jn mows)) => show Calls Tryd.prog 15 #[.slice X (jn rows).length cx, .slice Y (jn mows).length cy] W (Hands (.bool (decide (rows = mows))) W) from by
        by_cases e : rows = mows
        · subst e
          rw [decide_eq_true rfl]
          exact same_true (jn rows) X Y cx cy W hX hY (by omega)
        · rw [decide_eq_false e]
          exact same_no (jn rows) (jn mows) X Y cx cy W hX hY (by omega) (fun he => e (jn_inj rows mows (fun t ht => by
            obtain ⟨i, hi, rfl⟩ := ro_mem ht
            have := l1 i hi
            exact Nat.lt_of_le_of_lt this (by decide)) (fun t ht => by
            obtain ⟨i, hi, rfl⟩ := ro_mem ht
            have := l2 i hi
            exact Nat.lt_of_le_of_lt this (by decide)) he)))
      have HSJ := Lib.hid (fun (e : rows = mows) => show sha (jn rows) = sha (jn mows) from by rw [e])
      obtain ⟨bq, hbq⟩ : ∃ b, decide (rows = mows) = b := ⟨_, rfl⟩
      have HBQ := Lib.hid (fun (_ : Unit) => hbq)
      rw [hbq] at HLI HSA
      have HS1 := Lib.hid s1
      have HS2 := Lib.hid s2
      obtain ⟨J1, hJ1⟩ : ∃ J, jn rows = J := ⟨_, rfl⟩
      obtain ⟨J2, hJ2⟩ : ∃ J, jn mows = J := ⟨_, rfl⟩
      rw [hJ1] at HJ1 HP1 HO1 HSA HS1 HSJ j1
      rw [hJ2] at HJ2 HP2 HO2 HSA HS2 HSJ j2
      obtain ⟨k1, hk1⟩ : ∃ k, J1.length = k := ⟨_, rfl⟩
      obtain ⟨k2, hk2⟩ : ∃ k, J2.length = k := ⟨_, rfl⟩
      rw [hk1] at HO1 HSA j1
      rw [hk2] at HO2 HSA j2
      have HK1 := Lib.hid hk1
      have HK2 := Lib.hid hk2
      obtain ⟨D1, hD1⟩ : ∃ D, sha J1 = D := ⟨_, rfl⟩
      obtain ⟨D2, hD2⟩ : ∃ D, sha J2 = D := ⟨_, rfl⟩
      have HD1 := Lib.hid (show D1.length = 32 ∧ Sm D1 from by rw [← hD1]; exact ⟨sha_len _, sha_sm _⟩)
      have HD2 := Lib.hid (show D2.length = 32 ∧ Sm D2 from by rw [← hD2]; exact ⟨sha_len _, sha_sm _⟩)
      rw [hD1] at HP1 HO1 HSJ
      rw [hD2] at HP2 HO2 HSJ
      generalize rows.length = n at *
      generalize mows.length = k at *
      unfold OwnE at HJ1 HJ2
      clear C hgl hr hc hk hck h1 h2 l1 l2 n1 n2 s1 s2 hbq hJ1 hJ2 hk1 hk2 hD1 hD2
      go_enter Tryd.func4, Tryd.ntmps4
      go_wp2_with fail
      refine (HAW.out _ (Ext.refl w)).mono ?_
      rintro e w1 ⟨rfl, hx1⟩
      have HX1 := Lib.hid hx1
      clear hx1
      go_wp2_with fail
      refine (HF1.out _ HX1.out).mono ?_
      rintro e w2 ⟨rfl, rfl⟩
      go_wp2_with fail
      refine (HF2.out _ HX1.out).mono ?_
      rintro e w2 ⟨rfl, rfl⟩
      go_wp2_with fail
      refine (HJ1.out _ HX1.out).mono ?_
      rintro e w3 ⟨v3, rfl, hm3, hx3⟩
      obtain ⟨B3, c3, rfl, hc3, hr3⟩ := hm3.slice HS1.out
      rw [HK1.out] at hc3 ⊢
      have HX3 := Lib.hid (HX1.out.trans hx3)
      have HR3 := Lib.hid hr3
      clear hm3 hx3 hr3
      go_wp2_with fail
      refine (HJ2.out _ HX3.out).mono ?_
      rintro e w4 ⟨v4, rfl, hm4, hx4⟩
      obtain ⟨B4, c4, rfl, hc4, hr4⟩ := hm4.slice HS2.out
      rw [HK2.out] at hc4 ⊢
      have HX4 := Lib.hid (HX3.out.trans hx4)
      have HR34 := Lib.hid (HR3.out.ext hx4)
      have HR4 := Lib.hid hr4
      clear hm4 hx4 hr4 HR3
      go_wp2_with fail
      refine (HP1.out _ HX4.out).mono ?_
      rintro e w5 ⟨c5, rfl, hc5, hx5⟩
      have HC5 := Lib.hid hc5
      have HX5 := Lib.hid (HX4.out.trans hx5)
      have HX45 := Lib.hid hx5
      obtain ⟨p1, p2, p3⟩ := dg_put hc5
      have P1 := Lib.hid p1
      have P2 := Lib.hid p2
      have P3 := Lib.hid p3
      clear hc5 hx5 p1 p2 p3
      go_wp2_with fail
      refine (HP2.out _ HX5.out).mono ?_
      rintro e w6 ⟨c6, rfl, hc6, hx6⟩
      have HC6 := Lib.hid hc6
      have HX6 := Lib.hid (HX5.out.trans hx6)
      have HX46 := Lib.hid (HX45.out.trans hx6)
      obtain ⟨p1, p2, p3⟩ := dg_put hc6
      have Q1 := Lib.hid p1
      have Q2 := Lib.hid p2
      have Q3 := Lib.hid p3
      clear hc6 hx6 p1 p2 p3
      have hz := zero_digest.1
      have hg1 : ((w6.alloc (.cells (bt 32 fun _ => 0) 25)).alloc (.cells (bt 32 fun _ => 0) 25)).heap[w6.heap.size]? = some (.cells (bt 32 fun _ => 0) 25 (0, 0)) := (heap_alloc_old _ _ (by simp)).trans (heap_alloc_new w6 _)
      have hg2 : ((w6.alloc (.cells (bt 32 fun _ => 0) 25)).alloc (.cells (bt 32 fun _ => 0) 25)).heap[w6.heap.size + 1]? = some (.cells (bt 32 fun _ => 0) 25 (0, 0)) := by
        have h := heap_alloc_new (w6.alloc (.cells (bt 32 fun _ => 0) 25)) (.cells (bt 32 fun _ => 0) 25)
        rwa [show (w6.alloc (.cells (bt 32 fun _ => 0) 25)).heap.size = w6.heap.size + 1 from by simp] at h
      obtain ⟨W0, hW0⟩ : ∃ W, (w6.alloc (.cells (bt 32 fun _ => 0) 25)).alloc (.cells (bt 32 fun _ => 0) 25) = W := ⟨_, rfl⟩
      have x0 : Ext w6 W0 := by rw [← hW0]; exact ((Ext.refl w6).alloc _).alloc _
      rw [hW0] at hg1 hg2
      obtain ⟨ga, hga⟩ : ∃ g, w6.heap.size = g := ⟨_, rfl⟩
      rw [hga] at hg1 hg2
      have hg2' : (W0.setRow ga c5).heap[ga + 1]? = some (.cells (bt 32 fun _ => 0) 25 (0, 0)) := (setRow_other W0 ga (ga + 1) c5 (by omega)).trans hg2
      have k1' := setRow_heap W0 ga _ c5 _ _ hg1
      have k2' := setRow_heap (W0.setRow ga c5) (ga + 1) _ c6 _ _ hg2'
      have k1'' : ((W0.setRow ga c5).setRow (ga + 1) c6).heap[ga]? = some (.cells c5 25 (0, 0)) := (setRow_other (W0.setRow ga c5) (ga + 1) ga c6 (by omega)).trans k1'
      have xW := (x0.setRow (g := ga) (by rw [hga]; exact Nat.le_refl _) c5).setRow (g := ga + 1) (by rw [hga]; omega) c6
      have G1 := Lib.hid hg1
      have G2 := Lib.hid hg2'
      have HW0 := Lib.hid hW0
      have HGA := Lib.hid hga
      obtain ⟨U1, hU1⟩ : ∃ W, (W0.setRow ga c5).setRow (ga + 1) c6 = W := ⟨_, rfl⟩
      rw [hU1] at k1'' k2' xW
      have HU1 := Lib.hid hU1
      have M1 := Lib.hid k1''
      have M2 := Lib.hid k2'
      have HXU := Lib.hid (HX6.out.trans xW)
      have HXU4 := Lib.hid (HX46.out.trans xW)
      clear hg1 hg2 hg2' k1' k2' k1'' xW x0 hW0 hga hU1
      generalize hZ : (bt 32 fun _ => 0) = Z at G1 G2 hz P2 Q2 HW0
      go_wp2_with (first
        | (rw [HW0.out, HGA.out]; with_reducible refine wpList_store_all rfl 25 (.tmp 7) (.tmp 27) rfl ga Z c5 rfl rfl G1.out P1.out P2.out P3.out ?_)
        | (with_reducible refine wpList_store_all rfl 25 (.tmp 8) (.tmp 29) rfl (ga + 1) Z c6 rfl rfl G2.out Q1.out Q2.out Q3.out ?_; rw [HU1.out]))
      have RA := Lib.hid (show ∀ W, AfterH U1 W → Rd W B3 J1 from fun W hW => HR34.out.ext (HXU4.out.trans hW))
      have RB := Lib.hid (show ∀ W, AfterH U1 W → Rd W B4 J2 from fun W hW => HR4.out.ext (HXU4.out.trans hW))
      have L1 := Lib.hid (show ∀ W, AfterH U1 W → (Instr.loadAt 25 (.pointer (some ⟨ga, 0, none⟩))).run Tryd.prog W = .ok (.agg c5) W from fun W hW => run_load_all W ga 25 _ 32 5 Tryd.underlying25 ((Ext.below hW).block ga (by have := (Array.getElem?_eq_some_iff.1 M1.out).1; exact this) |>.trans M1.out) P1.out)
      have L2 := Lib.hid (show ∀ W, AfterH U1 W → (Instr.loadAt 25 (.pointer (some ⟨ga + 1, 0, none⟩))).run Tryd.prog W = .ok (.agg c6) W from fun W hW => run_load_all W (ga + 1) 25 _ 32 5 Tryd.underlying25 ((Ext.below hW).block (ga + 1) (by have := (Array.getElem?_eq_some_iff.1 M2.out).1; exact this) |>.trans M2.out) Q1.out)
      clear hz
      go_wp2
      refine wp_region_stab (AfterH U1) [0, 1, 2, 3, 4, 5, 6, 7, 8, 9, 10, 11, 12, 13, 14, 15, 16, 17, 18] [(0, true), (1, true), (2, false), (3, true), (4, true), (5, true), (6, true), (7, false), (8, true), (9, true), (10, true), (11, true), (12, true), (14, true), (15, true), (13, false), (16, false), (17, true), (18, true)] (by kernel_rfl) (fun c a a' w e h => ⟨e ▸ h.1, h.2⟩) (by kernel_rfl) (show AfterH U1 U1.drew from (Ext.refl U1).drew) ?_
      refine stab_load rfl 25 (.tmp 7) rfl (.agg c5) (by first | rfl | go_simp) (fun W hW => L1.out W hW) ?_
      refine stab_yes rfl (fun K hK => ?_); go_simp; refine ⟨_, fun _ _ => rfl, hK _ ?_⟩; clear hK K
      refine stab_one rfl (fun K hK => ?_)
      go_wp2_with fail
      refine (HO1.out B3 c3 _ (HXU.out.trans (Ext.refl U1).drew) (RA.out _ (Ext.refl U1).drew) hc3).mono ?_
      rintro e v1 ⟨o1, rfl, ho1, hv1⟩
      have HV1 := Lib.hid (show AfterH U1 v1 from ((Ext.refl U1).drew).trans hv1)
      have q1 : ∀ W, (binOp .neq 25 (.agg c5) (.agg o1)).run Tryd.prog W = .ok (.bool false) W := fun W => by
        rw [run_ne_dgc HC5.out ho1 HD1.out.1 HD1.out.1 HD1.out.2 HD1.out.2 W, decide_eq_true rfl]; rfl
      clear hv1 ho1
      go_wp2_with fail
      refine ⟨fun _ => HV1.out, ?_⟩
      refine stab_yes rfl (fun K hK => ?_); go_simp; refine ⟨_, fun _ _ => rfl, hK _ ?_⟩; clear hK K
      refine stab_yes rfl (fun K hK => ?_); go_simp; refine ⟨_, fun _ _ => rfl, hK _ ?_⟩; clear hK K
      refine stab_load rfl 25 (.tmp 8) rfl (.agg c6) (by first | rfl | go_simp) (fun W hW => L2.out W hW) ?_
      refine stab_yes rfl (fun K hK => ?_); go_simp; refine ⟨_, fun _ _ => rfl, hK _ ?_⟩; clear hK K
      refine stab_one rfl (fun K hK => ?_)
      go_wp2_with fail
      refine (HO2.out B4 c4 _ (HXU.out.trans HV1.out) (RB.out _ HV1.out) hc4).mono ?_
      rintro e v2 ⟨o2, rfl, ho2, hv2⟩
      have HV2 := Lib.hid (show AfterH U1 v2 from Ext.trans HV1.out hv2)
      have q2 : ∀ W, (binOp .neq 25 (.agg c6) (.agg o2)).run Tryd.prog W = .ok (.bool false) W := fun W => by
        rw [run_ne_dgc HC6.out ho2 HD2.out.1 HD2.out.1 HD2.out.2 HD2.out.2 W, decide_eq_true rfl]; rfl
      clear hv2 ho2
      go_wp2_with fail
      refine ⟨fun _ => HV2.out, ?_⟩
      refine stab_yes rfl (fun K hK => ?_); go_simp; refine ⟨_, fun _ _ => rfl, hK _ ?_⟩; clear hK K
      refine stab_yes rfl (fun K hK => ?_); go_simp; refine ⟨_, fun _ _ => rfl, hK _ ?_⟩; clear hK K
      refine stab_yes rfl (fun K hK => ?_); go_simp; refine ⟨_, fun _ _ => rfl, hK _ ?_⟩; clear hK K
      refine stab_yes rfl (fun K hK => ?_); go_simp; refine ⟨_, fun _ _ => rfl, hK _ ?_⟩; clear hK K
      refine stab_yes rfl (fun K hK => ?_); go_simp; refine ⟨_, fun _ _ => rfl, hK _ ?_⟩; clear hK K
      refine stab_yes rfl (fun K hK => ?_); go_simp; refine ⟨_, fun _ _ => rfl, hK _ ?_⟩; clear hK K
      refine stab_yes rfl (fun K hK => ?_); go_simp; refine ⟨_, fun _ _ => rfl, hK _ ?_⟩; clear hK K
      refine stab_one rfl (fun K hK => ?_)
      go_wp2_with fail
      refine (HSA.out B3 B4 c3 c4 _ (RA.out _ HV2.out) (RB.out _ HV2.out)).mono ?_
      rintro e v3 ⟨rfl, m3, rfl⟩
      have HV3 := Lib.hid (show AfterH U1 (v2.drewN m3) from Ext.drewN HV2.out m3)
      generalize v2.drewN m3 = v3 at HV3 ⊢
      go_wp2_with fail
      refine ⟨fun _ => HV3.out, ?_⟩
      refine stab_one rfl (fun K hK => ?_)
      go_wp2_with fail
      refine (HLI.out _ (HXU.out.trans HV3.out)).mono ?_
      rintro e v4 ⟨rfl, m4, rfl⟩
      have HV4 := Lib.hid (show AfterH U1 (v3.drewN m4) from Ext.drewN HV3.out m4)
      generalize v3.drewN m4 = v4 at HV4 ⊢
      have hbb : (bq != bq) = false := by cases bq <;> rfl
      go_wp2_with fail
      refine ⟨fun _ => HV4.out, ?_⟩
      refine stab_yes rfl (fun K hK => ?_); go_simp; refine ⟨_, fun _ _ => rfl, hK _ ?_⟩; clear hK K
      refine stab_yes rfl (fun K hK => ?_); go_simp; refine ⟨_, fun _ _ => rfl, hK _ ?_⟩; clear hK K
      unfold wpStab
      go_wp2_with fail
      refine (HLI.out _ (HXU.out.trans HV4.out)).mono ?_
      rintro e v5 ⟨rfl, m5, rfl⟩
      have HV5 := Lib.hid (show AfterH U1 (v4.drewN m5) from Ext.drewN HV4.out m5)
      generalize v4.drewN m5 = v5 at HV5 ⊢
      have N1 := Lib.hid ((Ext.below HV5.out).block ga (by have := (Array.getElem?_eq_some_iff.1 M1.out).1; exact this) |>.trans M1.out)
      have N2 := Lib.hid ((Ext.below HV5.out).block (ga + 1) (by have := (Array.getElem?_eq_some_iff.1 M2.out).1; exact this) |>.trans M2.out)
      have HQ := Lib.hid (fun (h : bq = true) W => show (binOp .eql 25 (.agg c5) (.agg c6)).run Tryd.prog W = .ok (.bool true) W from by
        have e : D1 = D2 := HSJ.out (of_decide_eq_true (by rw [HBQ.out ()]; exact h))
        rw [run_eq_dgc HC5.out HC6.out HD1.out.1 HD2.out.1 HD1.out.2 HD2.out.2 W, decide_eq_true e])
      clear q1 q2 hbb
      cases bq with
      | true =>
        have q := HQ.out rfl
        go_wp2_with (first
          | (refine wpList_load_row_g (by rfl) 25 (.tmp 7) rfl ga rfl 25 c5 (0, 0) _ N1.out Tryd.underlying25 rfl P1.out ?_)
          | (refine wpList_load_row_g (by rfl) 25 (.tmp 8) rfl (ga + 1) rfl 25 c6 (0, 0) _ N2.out Tryd.underlying25 rfl Q1.out ?_)
          | (refine wpIf_load_row (by rfl) 25 (.tmp 7) rfl ga rfl 25 c5 (0, 0) _ N1.out Tryd.underlying25 rfl P1.out ?_)
          | (refine wpIf_load_row (by rfl) 25 (.tmp 8) rfl (ga + 1) rfl 25 c6 (0, 0) _ N2.out Tryd.underlying25 rfl Q1.out ?_))
        go_ret
        exact ⟨rfl, HXU.out.trans HV5.out⟩
      | false =>
        go_wp2_with fail
        go_ret
        exact ⟨rfl, HXU.out.trans HV5.out⟩
    · rw [decide_eq_false h2] at HF2
      generalize rows.length = n at *
      generalize mows.length = k at *
      clear C hgl hr hc hk hck h1 h2
      go_enter Tryd.func4, Tryd.ntmps4
      go_wp2_with fail
      refine (HAW.out _ (Ext.refl w)).mono ?_
      rintro e w1 ⟨rfl, hx1⟩
      have HX1 := Lib.hid hx1
      clear hx1
      go_wp2_with fail
      refine (HF1.out _ HX1.out).mono ?_
      rintro e w2 ⟨rfl, rfl⟩
      go_wp2_with fail
      refine (HF2.out _ HX1.out).mono ?_
      rintro e w2 ⟨rfl, rfl⟩
      go_wp2_with fail
      refine (HAW.out _ HX1.out).mono ?_
      rintro e w2 ⟨rfl, hx2⟩
      have HX2 := Lib.hid (HX1.out.trans hx2)
      clear hx2
      go_wp2
      go_ret
      exact ⟨rfl, HX2.out⟩
  · rw [decide_eq_false h1] at HF1
    generalize rows.length = n at *
    generalize mows.length = k at *
    clear C hgl hr hc hk hck h1
    go_enter Tryd.func4, Tryd.ntmps4
    go_wp2_with fail
    refine (HAW.out _ (Ext.refl w)).mono ?_
    rintro e w1 ⟨rfl, hx1⟩
    have HX1 := Lib.hid hx1
    clear hx1
    go_wp2_with fail
    refine (HF1.out _ HX1.out).mono ?_
    rintro e w2 ⟨rfl, rfl⟩
    go_wp2_with fail
    refine (HAW.out _ HX1.out).mono ?_
    rintro e w2 ⟨rfl, hx2⟩
    have HX2 := Lib.hid (HX1.out.trans hx2)
    clear hx2
    go_wp2
    go_ret
    exact ⟨rfl, HX2.out⟩
end Go.Proofs.YtfhmafncpodlbaaDoor

/-
  What right of layer 10 does: a word is turned. Conditions: by 1 to 31.
-/
namespace Go.Proofs.YtfhmafncpodlbaaDoor
open Go.RowKit
open Pol (co Sm)

set_option maxHeartbeats 400000 in
theorem sh_rot (x r : Nat) (w : World) (hx : x < 4294967296) (h0 : 0 < r) (hr : r < 32) :
    Calls Tryd.prog 38 #[.int .u32 (x : Int), .int .i64 (-(r : Int))] w (fun e w' => e = .returned (.int .u32 ((tw x r : Nat) : Int)) ∧ w = w') := by
  obtain ⟨m, hm⟩ : ∃ m, 32 - r = m := ⟨_, rfl⟩
  obtain ⟨M, hM⟩ : ∃ M, 18446744073709551616 - r = M := ⟨_, rfl⟩
  obtain ⟨q, hq⟩ : ∃ q, x / 2 ^ r = q := ⟨_, rfl⟩
  obtain ⟨y, hy⟩ : ∃ y, x * 2 ^ m % 4294967296 = y := ⟨_, rfl⟩
  obtain ⟨z, hz⟩ : ∃ z, tw x r = z := ⟨_, rfl⟩
  have e0 : IntKind.u64.wrap (-(r : Int)) = (M : Int) := by rw [IntKind.wrap_u64]; omega
  have ea : bits .and .u64 (M : Int) 31 = (m : Int) := by
    have h := u64_and_nat M 31 (by omega) (by decide)
    rw [show ((31 : Nat) : Int) = 31 from rfl] at h
    rw [h, show (31 : Nat) = 2 ^ 5 - 1 from rfl, Nat.and_two_pow_sub_one_eq_mod]
    omega
  have e1 : IntKind.u64.wrap (32 - (m : Int)) = (r : Int) := by rw [IntKind.wrap_u64]; omega
  have e1' : 32 - (m : Int) = (r : Int) := by omega
  have e2 : (x : Int) / 2 ^ r = (q : Int) := by rw [← hq]; simp
  have e3 : IntKind.u32.wrap ((x : Int) * 2 ^ m) = (y : Int) := by
    rw [IntKind.wrap_u32, ← hy]
    simp
  have hqb : q < 4294967296 := by rw [← hq]; exact Nat.lt_of_le_of_lt (Nat.div_le_self _ _) hx
  have hyb : y < 4294967296 := by rw [← hy]; exact Nat.mod_lt _ (by decide)
  have e4 : bits .or .u32 (y : Int) (q : Int) = (z : Int) := by
    rw [u32_or_nat y q hyb hqb, ← hz, Nat.or_comm]
    unfold tw
    rw [hm, hq, hy]
  have hm32 : m < 32 := by omega
  rw [hz]
  clear hm hq hy hz hM
  go_enter Tryd.func38, Tryd.ntmps38
  go_wp2
  go_ret
  exact ⟨rfl, rfl⟩
set_option maxHeartbeats 400000 in
theorem sh_right (x r : Nat) (w : World) (hx : x < 4294967296) (h0 : 0 < r) (hr : r < 32) :
    Calls Tryd.prog 36 #[.int .u32 (x : Int), .int .i64 (r : Int)] w (fun e w' => e = .returned (.int .u32 ((tw x r : Nat) : Int)) ∧ w = w') := by
  have HR := Lib.hid (fun W => sh_rot x r W hx h0 hr)
  obtain ⟨z, hz⟩ : ∃ z, tw x r = z := ⟨_, rfl⟩
  rw [hz] at HR ⊢
  have e0 : wrap64 (-(r : Int)) = -(r : Int) := by unfold wrap64; omega
  clear hz
  go_enter Tryd.func36, Tryd.ntmps36
  go_wp2_with fail
  refine (HR.out _).mono ?_
  rintro e w1 ⟨rfl, rfl⟩
  go_wp2
  go_ret
  exact ⟨rfl, rfl⟩
end Go.Proofs.YtfhmafncpodlbaaDoor

/-
  What mix of layer 10 does: sixty-four rounds. Conditions: the constants lie where they were laid.
-/
namespace Go.Proofs.YtfhmafncpodlbaaDoor
open Go.RowKit
open Pol (co Sm)


/-- The complement of a word; what is chosen; what most have. -/
theorem not_sub {x : Nat} (h : x < 4294967296) : x ^^^ 4294967295 = 4294967295 - x := by
  apply Nat.eq_of_testBit_eq
  intro i
  have h1 := Nat.testBit_two_pow_sub_succ (n := 32) h i
  rw [show (2 : Nat) ^ 32 - (x + 1) = 4294967295 - x from by omega] at h1
  have h2 := Nat.testBit_two_pow_sub_one 32 i
  rw [show (2 : Nat) ^ 32 - 1 = 4294967295 from rfl] at h2
  rw [Nat.testBit_xor, h2, h1]
  by_cases hi : i < 32
  · simp [hi]
  · have : x.testBit i = false := Nat.testBit_lt_two_pow (Nat.lt_of_lt_of_le h (Nat.le_trans (by decide : 4294967296 ≤ 2 ^ 32) (Nat.pow_le_pow_right (by decide) (by omega))))
    simp [hi, this]
theorem ch_or {e f g : Nat} (h : e < 4294967296) : (e &&& f) ||| ((4294967295 - e) &&& g) = (e &&& f) ^^^ ((4294967295 - e) &&& g) := by
  rw [← not_sub h]
  apply Nat.eq_of_testBit_eq
  intro i
  have h2 := Nat.testBit_two_pow_sub_one 32 i
  rw [show (2 : Nat) ^ 32 - 1 = 4294967295 from rfl] at h2
  simp only [Nat.testBit_or, Nat.testBit_xor, Nat.testBit_and, h2]
  by_cases hi : i < 32
  · simp only [hi, decide_true]
    cases e.testBit i <;> cases f.testBit i <;> cases g.testBit i <;> rfl
  · have : e.testBit i = false := Nat.testBit_lt_two_pow (Nat.lt_of_lt_of_le h (Nat.le_trans (by decide : 4294967296 ≤ 2 ^ 32) (Nat.pow_le_pow_right (by decide) (by omega))))
    simp [hi, this]
theorem maj_or (a b c : Nat) : (a &&& b ||| a &&& c) ||| b &&& c = (a &&& b ^^^ a &&& c) ^^^ b &&& c := by
  apply Nat.eq_of_testBit_eq
  intro i
  simp only [Nat.testBit_or, Nat.testBit_xor, Nat.testBit_and]
  cases a.testBit i <;> cases b.testBit i <;> cases c.testBit i <;> rfl
theorem not_u32 {x : Nat} (h : x < 4294967296) : bits .xor .u32 IntKind.u32.max (x : Int) = ((4294967295 - x : Nat) : Int) := by
  have h1 := u32_xor_nat 4294967295 x (by decide) h
  rw [Nat.xor_comm, not_sub h] at h1
  exact h1
/-- 'a[i]' of an array by value, of elements of one cell. -/
theorem idx_arr {t e : TypeId} {n : Nat} (h : Tryd.prog.underlying t = some (.array n e)) (he : Tryd.prog.plainKey e = true) (hs : Tryd.prog.cellsOf e = 1) (hi' : ∃ q, Tryd.prog.info? e = some q)
    (V : Array Value) (i : Nat) (v : Value) (hi : i < n) (hv : V[i]? = some v) (W : World) : (Instr.index t (.agg V) (.int .i64 (i : Int))).run Tryd.prog W = .ok v W := by
  obtain ⟨q, hq⟩ := hi'
  have hn : (0 : Int) ≤ (i : Int) ∧ (i : Int) < (n : Int) := by omega
  simp only [Instr.index, asIntOf, Sem.run_bind, Sem.run_pure, Result.andThen_ok, run_underlying h, hn, and_self, if_true, run_sizeOf W hq, hs]
  rw [show (i : Int).toNat * 1 = i from by omega]
  exact run_part_plain W he hv

/-- Where mix's rounds stand. -/
structure MixW (WL : List Nat) (g : Nat) (w W : World) : Prop where
  x : Ext w W
  c : ∀ i, i < 64 → W.cell? ⟨g + 1, i, none⟩ = some (.int .u32 ((co WL i : Nat) : Int))
  r : W.heap[g + 1 + 1]? = some (.cells (dt 8 fun _ => 0) 39 (0, 0))
theorem MixW.start {V0 V1 : Array Value} {WL : List Nat} (w : World) (h1 : ∀ i, i < 64 → V1[i]? = some (.int .u32 ((co WL i : Nat) : Int))) (T U : TypeId) (q : Nat) :
    MixW WL w.heap.size w ((((w.alloc (.cells V0 T)).alloc (.cells V1 U)).alloc (.cells (dt 8 fun _ => 0) 39)).drewN q) := by
  refine ⟨((((Ext.refl w).alloc _).alloc _).alloc _).drewN q, fun i hi => ?_, ?_⟩
  · show (((w.alloc (.cells V0 T)).alloc (.cells V1 U)).alloc _).cell? _ = _
    have e : w.heap.size + 1 = (w.alloc (.cells V0 T)).heap.size := by simp
    rw [World.cell?_alloc_lt _ _ _ (by simp), e, cell_of_row _ _ _ _ _ _ (heap_alloc_new (w.alloc (.cells V0 T)) _)]
    exact h1 i hi
  · have e : w.heap.size + 1 + 1 = ((w.alloc (.cells V0 T)).alloc (.cells V1 U)).heap.size := by simp
    rw [e]
    exact heap_alloc_new _ _
theorem MixW.drewN {WL : List Nat} {g : Nat} {w W : World} (h : MixW WL g w W) (q : Nat) : MixW WL g w (W.drewN q) := ⟨h.x.drewN q, h.c, h.r⟩
theorem rnd_at (k w : Nat) (S : List Nat) : co (rnd k w S) 0 = (one k w S + two S) % 4294967296 ∧ co (rnd k w S) 1 = co S 0 ∧ co (rnd k w S) 2 = co S 1 ∧ co (rnd k w S) 3 = co S 2 ∧ co (rnd k w S) 4 = (co S 3 + one k w S) % 4294967296 ∧ co (rnd k w S) 5 = co S 4 ∧ co (rnd k w S) 6 = co S 5 ∧ co (rnd k w S) 7 = co S 6 := ⟨rfl, rfl, rfl, rfl, rfl, rfl, rfl, rfl⟩

set_option maxHeartbeats 3200000 in
set_option maxRecDepth 100000 in
theorem sh_mix (S WL : List Nat) (w : World) (hgl : GL w) (hS : W32 S) (hW : W32 WL) :
    Calls Tryd.prog 29 #[.agg (dt 8 (co S)), .agg (dt 64 (co WL))] w (Tells (.agg (dt 8 (co (rds KK WL S 64)))) w) := by
  obtain ⟨V0, hV0⟩ : ∃ V, dt 8 (co S) = V := ⟨_, rfl⟩
  obtain ⟨V1, hV1⟩ : ∃ V, dt 64 (co WL) = V := ⟨_, rfl⟩
  have hc := fun i (hi : i < 8) => dt_at 8 (co S) i hi
  have hc1 := fun i (hi : i < 64) => dt_at 64 (co WL) i hi
  rw [hV0] at hc ⊢
  rw [hV1] at hc1 ⊢
  have h0 := hc 0 (by decide)
  have h1 := hc 1 (by decide)
  have h2 := hc 2 (by decide)
  have h3 := hc 3 (by decide)
  have h4 := hc 4 (by decide)
  have h5 := hc 5 (by decide)
  have h6 := hc 6 (by decide)
  have h7 := hc 7 (by decide)
  have HS := Lib.hid (fun (T U : TypeId) (q : Nat) => MixW.start (V0 := V0) w hc1 T U q)
  have HK := Lib.hid (show ∀ W, Ext w W → ∃ T, W.heap[1]? = some (.cells (dt 64 (co KK)) T (0, 0)) from fun W hW => (hgl.ext hW).2)
  have HRD := Lib.hid (fun i => rds_w32 KK WL S hS i)
  have HW := Lib.hid hW
  have HWK := Lib.hid KK_w32
  have HST := Lib.hid (fun i => show rds KK WL S (i + 1) = rnd (co KK i) (co WL i) (rds KK WL S i) from rfl)
  have hz : dt 8 (fun _ => 0) = #[.int .u32 0, .int .u32 0, .int .u32 0, .int .u32 0, .int .u32 0, .int .u32 0, .int .u32 0, .int .u32 0] := rfl
  rw [hz] at HS
  have HRT := Lib.hid (fun x r W h1 h2 h3 => sh_right x r W h1 h2 h3)
  have HZ8 := Lib.hid (show rds KK WL S 0 = S from rfl)
  clear hc hc1 hgl hS hW hV0 hV1
  go_enter Tryd.func29, Tryd.ntmps29
  go_wp2
  go_quiet (fail)
  generalize nq = q0
  go_wp2
  go_quiet (fail)
  have hm := HS.out 39 53 (q0 + nq)
  rw [World.drewN_drewN]
  obtain ⟨g, hg⟩ : ∃ g, w.heap.size = g := ⟨_, rfl⟩
  rw [hg] at hm ⊢
  generalize (((w.alloc (Obj.cells V0 39)).alloc (Obj.cells V1 53)).alloc (Obj.cells #[.int .u32 0, .int .u32 0, .int .u32 0, .int .u32 0, .int .u32 0, .int .u32 0, .int .u32 0, .int .u32 0] 39)).drewN (q0 + nq) = W3 at hm ⊢
  have HM := Lib.hid hm
  obtain ⟨TK, hgk⟩ := HK.out _ hm.x
  have HGK := Lib.hid hgk
  have HIK := Lib.hid (show (Tryd.prog.info? 53).map (·.size) = some (dt 64 (co KK)).size from by rw [dt_size]; kernel_rfl)
  have HIX := Lib.hid (fun (i : Nat) (hi : i < 64) => show ∀ W, (Instr.index 53 (.agg (dt 64 (co KK))) (.int .i64 (i : Int))).run Tryd.prog W = .ok (.int .u32 ((co KK i : Nat) : Int)) W from fun W => idx_arr Tryd.underlying53 (by kernel_rfl) (by kernel_rfl) ⟨_, rfl⟩ _ i _ hi (dt_at 64 _ i hi) W)
  have HG := Lib.hid hg
  clear hm hgk h0 h1 h2 h3 h4 h5 h6 h7 hz hg
  generalize hVK : dt 64 (co KK) = VK at HGK HIK HIX
  clear hVK HS HK
  go_wp2_with (with_reducible refine wpList_load_row rfl 53 (.global 1) rfl 1 rfl TK VK (0, 0) _ HGK.out Tryd.underlying53 rfl HIK.out ?_)
  go_loopg [5, 6, 7, 8, 9, 10, 11, 12, 36] 64 (fun gk s5 s6 s7 s8 s9 s10 s11 s12 s36 wx => ∃ i q : Nat, i + gk = 64 ∧ s36 = .int .i64 (i : Int) ∧ s5 = .int .u32 ((co (rds KK WL S i) 0 : Nat) : Int) ∧ s6 = .int .u32 ((co (rds KK WL S i) 1 : Nat) : Int) ∧ s7 = .int .u32 ((co (rds KK WL S i) 2 : Nat) : Int) ∧ s8 = .int .u32 ((co (rds KK WL S i) 3 : Nat) : Int) ∧ s9 = .int .u32 ((co (rds KK WL S i) 4 : Nat) : Int) ∧ s10 = .int .u32 ((co (rds KK WL S i) 5 : Nat) : Int) ∧ s11 = .int .u32 ((co (rds KK WL S i) 6 : Nat) : Int) ∧ s12 = .int .u32 ((co (rds KK WL S i) 7 : Nat) : Int) ∧ wx = W3.drewN q)
  case atStart => exact ⟨0, 0, by omega, rfl, by rw [HZ8.out], by rw [HZ8.out], by rw [HZ8.out], by rw [HZ8.out], by rw [HZ8.out], by rw [HZ8.out], by rw [HZ8.out], by rw [HZ8.out], rfl⟩
  case round =>
    obtain ⟨i, q, hig, rfl, rfl, rfl, rfl, rfl, rfl, rfl, rfl, rfl, rfl⟩ := hrel
    cases gk with
    | zero =>
      obtain rfl : i = 64 := by omega
      clear hig HIX HIK HGK HRT HST HWK HW HRD
      have HMQ := Lib.hid (HM.out.drewN q)
      have HR0 := Lib.hid HMQ.out.r
      generalize W3.drewN q = W4 at HMQ HR0 ⊢
      obtain ⟨R, hR⟩ : ∃ R, rds KK WL S 64 = R := ⟨_, rfl⟩
      have HIN := Lib.hid (show (Tryd.prog.info? 39).map (·.size) = some (dt 8 (co R)).size from by rw [dt_size]; kernel_rfl)
      have HSZ := Lib.hid (show (dt 8 fun _ => 0).size = (dt 8 (co R)).size from by rw [dt_size, dt_size])
      have HON := Lib.hid (dt_one 8 (co R))
      have HG3 := Lib.hid (setRow_heap W4 (g + 1 + 1) _ (dt 8 (co R)) _ _ HR0.out)
      have HX3 := Lib.hid (HMQ.out.x.setRow (g := g + 1 + 1) (by rw [HG.out]; omega) (dt 8 (co R)))
      have HE := Lib.hid (show Value.agg (dt 8 (co R)) = .agg #[.int .u32 ((co R 0 : Nat) : Int), .int .u32 ((co R 1 : Nat) : Int), .int .u32 ((co R 2 : Nat) : Int), .int .u32 ((co R 3 : Nat) : Int), .int .u32 ((co R 4 : Nat) : Int), .int .u32 ((co R 5 : Nat) : Int), .int .u32 ((co R 6 : Nat) : Int), .int .u32 ((co R 7 : Nat) : Int)] from rfl)
      have HVE := Lib.hid (show Value.agg (dt 8 (co R)) = Value.agg (dt 8 (co (rds KK WL S 64))) from by rw [hR])
      rw [hR]
      generalize dt 8 (co R) = V at HIN HSZ HON HG3 HX3 HE HVE
      generalize hZ : dt 8 (fun _ => 0) = Z at HR0 HSZ
      clear hZ hR HM HZ8
      go_wp2_with (refine wpList_store_all rfl 39 (.tmp 4) (.tmp 108) rfl (g + 1 + 1) Z V rfl HE.out.symm HR0.out HIN.out HSZ.out HON.out ?_)
      exact ⟨rfl, .agg V, results_cell_row Tryd.results29 _ _ (g + 1 + 1) 39 V (0, 0) _ rfl HG3.out Tryd.underlying39 rfl HIN.out, by rw [HVE.out], HX3.out⟩
    | succ gk =>
      have hi : i < 64 := by omega
      have hiI : (i : Int) < 64 := by omega
      have HR := Lib.hid (HRD.out i)
      have HN := Lib.hid (HST.out i)
      have hix := HIX.out i hi
      have hcw := (HM.out.drewN q).c i hi
      obtain ⟨T, hT⟩ : ∃ T, rds KK WL S i = T := ⟨_, rfl⟩
      have hwb := HW.out.at i
      have hkb := HWK.out.at i
      rw [hT] at HR HN ⊢
      clear hT
      obtain ⟨kk, hkk⟩ : ∃ x, co KK i = x := ⟨_, rfl⟩
      obtain ⟨ww, hww⟩ : ∃ x, co WL i = x := ⟨_, rfl⟩
      rw [hkk] at hix hkb HN
      rw [hww] at hcw hwb HN
      obtain ⟨na, hna⟩ : ∃ x, (one kk ww T + two T) % 4294967296 = x := ⟨_, rfl⟩
      obtain ⟨ne, hne⟩ : ∃ x, (co T 3 + one kk ww T) % 4294967296 = x := ⟨_, rfl⟩
      have hrn := rnd_at kk ww T
      rw [hna, hne, ← HN.out] at hrn
      unfold one two at hna
      unfold one at hne
      have ba := HR.out.at 0
      have bb := HR.out.at 1
      have bc := HR.out.at 2
      have bd := HR.out.at 3
      have be := HR.out.at 4
      have bf := HR.out.at 5
      have bg := HR.out.at 6
      have bh := HR.out.at 7
      have HRN := Lib.hid hrn
      clear hrn
      generalize co T 0 = a at *
      generalize co T 1 = b at *
      generalize co T 2 = c at *
      generalize co T 3 = d at *
      generalize co T 4 = e at *
      generalize co T 5 = f at *
      generalize co T 6 = gg at *
      generalize co T 7 = h at *
      obtain ⟨n1, hn1⟩ : ∃ x, 4294967295 - e = x := ⟨_, rfl⟩
      have bn1 : n1 < 4294967296 := by omega
      have en : bits .xor .u32 IntKind.u32.max (e : Int) = (n1 : Int) := by rw [not_u32 be, hn1]
      obtain ⟨x1, hx1⟩ : ∃ x, e &&& f = x := ⟨_, rfl⟩
      obtain ⟨x2, hx2⟩ : ∃ x, n1 &&& gg = x := ⟨_, rfl⟩
      obtain ⟨ch, hch⟩ : ∃ x, x1 ||| x2 = x := ⟨_, rfl⟩
      have bx1 : x1 < 4294967296 := by rw [← hx1]; exact Nat.lt_of_le_of_lt Nat.and_le_left be
      have bx2 : x2 < 4294967296 := by rw [← hx2]; exact Nat.lt_of_le_of_lt Nat.and_le_left bn1
      have bch : ch < 4294967296 := by rw [← hch]; exact Nat.or_lt_two_pow (n := 32) bx1 bx2
      have e1 : bits .and .u32 (e : Int) (f : Int) = (x1 : Int) := by rw [u32_and_nat e f be bf, hx1]
      have e2 : bits .and .u32 (n1 : Int) (gg : Int) = (x2 : Int) := by rw [u32_and_nat n1 gg bn1 bg, hx2]
      have e3 : bits .or .u32 (x1 : Int) (x2 : Int) = (ch : Int) := by rw [u32_or_nat x1 x2 bx1 bx2, hch]
      have hcx : x1 ^^^ x2 = ch := by rw [← hch, ← hx1, ← hx2, ← hn1]; exact (ch_or be).symm
      obtain ⟨y1, hy1⟩ : ∃ x, a &&& b = x := ⟨_, rfl⟩
      obtain ⟨y2, hy2⟩ : ∃ x, a &&& c = x := ⟨_, rfl⟩
      obtain ⟨y3, hy3⟩ : ∃ x, y1 ||| y2 = x := ⟨_, rfl⟩
      obtain ⟨y4, hy4⟩ : ∃ x, b &&& c = x := ⟨_, rfl⟩
      obtain ⟨mj, hmj⟩ : ∃ x, y3 ||| y4 = x := ⟨_, rfl⟩
      have by1 : y1 < 4294967296 := by rw [← hy1]; exact Nat.lt_of_le_of_lt Nat.and_le_left ba
      have by2 : y2 < 4294967296 := by rw [← hy2]; exact Nat.lt_of_le_of_lt Nat.and_le_left ba
      have by3 : y3 < 4294967296 := by rw [← hy3]; exact Nat.or_lt_two_pow (n := 32) by1 by2
      have by4 : y4 < 4294967296 := by rw [← hy4]; exact Nat.lt_of_le_of_lt Nat.and_le_left bb
      have bmj : mj < 4294967296 := by rw [← hmj]; exact Nat.or_lt_two_pow (n := 32) by3 by4
      have f1 : bits .and .u32 (a : Int) (b : Int) = (y1 : Int) := by rw [u32_and_nat a b ba bb, hy1]
      have f2 : bits .and .u32 (a : Int) (c : Int) = (y2 : Int) := by rw [u32_and_nat a c ba bc, hy2]
      have f3 : bits .or .u32 (y1 : Int) (y2 : Int) = (y3 : Int) := by rw [u32_or_nat y1 y2 by1 by2, hy3]
      have f4 : bits .and .u32 (b : Int) (c : Int) = (y4 : Int) := by rw [u32_and_nat b c bb bc, hy4]
      have f5 : bits .or .u32 (y3 : Int) (y4 : Int) = (mj : Int) := by rw [u32_or_nat y3 y4 by3 by4, hmj]
      have hmx : y1 ^^^ y2 ^^^ y4 = mj := by rw [← hmj, ← hy3, ← hy1, ← hy2, ← hy4]; exact (maj_or a b c).symm
      rw [hn1, hx1, hx2, hcx] at hna hne
      rw [hy1, hy2, hy4, hmx] at hna
      clear hn1 hx1 hx2 hch hy1 hy2 hy3 hy4 hmj hcx hmx
      have b6 := tw_lt (n := 6) be
      have b11 := tw_lt (n := 11) be
      have b25 := tw_lt (n := 25) be
      have b2 := tw_lt (n := 2) ba
      have b13 := tw_lt (n := 13) ba
      have b22 := tw_lt (n := 22) ba
      have HT6 := Lib.hid (fun W => show Calls Tryd.prog 36 #[.int .u32 (e : Int), .int .i64 6] W (fun e' w' => e' = .returned (.int .u32 ((tw e 6 : Nat) : Int)) ∧ W = w') from HRT.out e 6 W be (by decide) (by decide))
      have HT11 := Lib.hid (fun W => show Calls Tryd.prog 36 #[.int .u32 (e : Int), .int .i64 11] W (fun e' w' => e' = .returned (.int .u32 ((tw e 11 : Nat) : Int)) ∧ W = w') from HRT.out e 11 W be (by decide) (by decide))
      have HT25 := Lib.hid (fun W => show Calls Tryd.prog 36 #[.int .u32 (e : Int), .int .i64 25] W (fun e' w' => e' = .returned (.int .u32 ((tw e 25 : Nat) : Int)) ∧ W = w') from HRT.out e 25 W be (by decide) (by decide))
      have HT2 := Lib.hid (fun W => show Calls Tryd.prog 36 #[.int .u32 (a : Int), .int .i64 2] W (fun e' w' => e' = .returned (.int .u32 ((tw a 2 : Nat) : Int)) ∧ W = w') from HRT.out a 2 W ba (by decide) (by decide))
      have HT13 := Lib.hid (fun W => show Calls Tryd.prog 36 #[.int .u32 (a : Int), .int .i64 13] W (fun e' w' => e' = .returned (.int .u32 ((tw a 13 : Nat) : Int)) ∧ W = w') from HRT.out a 13 W ba (by decide) (by decide))
      have HT22 := Lib.hid (fun W => show Calls Tryd.prog 36 #[.int .u32 (a : Int), .int .i64 22] W (fun e' w' => e' = .returned (.int .u32 ((tw a 22 : Nat) : Int)) ∧ W = w') from HRT.out a 22 W ba (by decide) (by decide))
      generalize tw e 6 = r6 at *
      generalize tw e 11 = r11 at *
      generalize tw e 25 = r25 at *
      generalize tw a 2 = r2 at *
      generalize tw a 13 = r13 at *
      generalize tw a 22 = r22 at *
      obtain ⟨t1, ht1⟩ : ∃ x, r6 ^^^ r11 = x := ⟨_, rfl⟩
      obtain ⟨t2, ht2⟩ : ∃ x, t1 ^^^ r25 = x := ⟨_, rfl⟩
      obtain ⟨v1, hv1⟩ : ∃ x, r2 ^^^ r13 = x := ⟨_, rfl⟩
      obtain ⟨v2, hv2⟩ : ∃ x, v1 ^^^ r22 = x := ⟨_, rfl⟩
      have bt1 : t1 < 4294967296 := by rw [← ht1]; exact Nat.xor_lt_two_pow (n := 32) b6 b11
      have bt2 : t2 < 4294967296 := by rw [← ht2]; exact Nat.xor_lt_two_pow (n := 32) bt1 b25
      have bv1 : v1 < 4294967296 := by rw [← hv1]; exact Nat.xor_lt_two_pow (n := 32) b2 b13
      have bv2 : v2 < 4294967296 := by rw [← hv2]; exact Nat.xor_lt_two_pow (n := 32) bv1 b22
      have g1 : bits .xor .u32 (r6 : Int) (r11 : Int) = (t1 : Int) := by rw [u32_xor_nat r6 r11 b6 b11, ht1]
      have g2 : bits .xor .u32 (t1 : Int) (r25 : Int) = (t2 : Int) := by rw [u32_xor_nat t1 r25 bt1 b25, ht2]
      have g3 : bits .xor .u32 (r2 : Int) (r13 : Int) = (v1 : Int) := by rw [u32_xor_nat r2 r13 b2 b13, hv1]
      have g4 : bits .xor .u32 (v1 : Int) (r22 : Int) = (v2 : Int) := by rw [u32_xor_nat v1 r22 bv1 b22, hv2]
      rw [ht1, ht2] at hna hne
      rw [hv1, hv2] at hna
      clear ht1 ht2 hv1 hv2
      obtain ⟨u1, hu1⟩ : ∃ x, (h + t2) % 4294967296 = x := ⟨_, rfl⟩
      obtain ⟨u2, hu2⟩ : ∃ x, (u1 + ch) % 4294967296 = x := ⟨_, rfl⟩
      obtain ⟨u3, hu3⟩ : ∃ x, (u2 + kk) % 4294967296 = x := ⟨_, rfl⟩
      obtain ⟨u4, hu4⟩ : ∃ x, (u3 + ww) % 4294967296 = x := ⟨_, rfl⟩
      obtain ⟨u5, hu5⟩ : ∃ x, (v2 + mj) % 4294967296 = x := ⟨_, rfl⟩
      have w1 : IntKind.u32.wrap ((h : Int) + (t2 : Int)) = (u1 : Int) := by rw [IntKind.wrap_u32]; omega
      have w2 : IntKind.u32.wrap ((u1 : Int) + (ch : Int)) = (u2 : Int) := by rw [IntKind.wrap_u32]; omega
      have w3 : IntKind.u32.wrap ((u2 : Int) + (kk : Int)) = (u3 : Int) := by rw [IntKind.wrap_u32]; omega
      have w4 : IntKind.u32.wrap ((u3 : Int) + (ww : Int)) = (u4 : Int) := by rw [IntKind.wrap_u32]; omega
      have w5 : IntKind.u32.wrap ((v2 : Int) + (mj : Int)) = (u5 : Int) := by rw [IntKind.wrap_u32]; omega
      have eo : (h + t2 + ch + kk + ww) % 4294967296 = u4 := by omega
      rw [eo, hu5] at hna
      rw [eo] at hne
      have w6 : IntKind.u32.wrap ((u4 : Int) + (u5 : Int)) = (na : Int) := by rw [IntKind.wrap_u32]; omega
      have w7 : IntKind.u32.wrap ((d : Int) + (u4 : Int)) = (ne : Int) := by rw [IntKind.wrap_u32]; omega
      have bu1 : u1 < 4294967296 := by omega
      have bu2 : u2 < 4294967296 := by omega
      have bu3 : u3 < 4294967296 := by omega
      have bu4 : u4 < 4294967296 := by omega
      have bu5 : u5 < 4294967296 := by omega
      have HIG := Lib.hid hig
      clear hna hne hu1 hu2 hu3 hu4 hu5 eo hig hkk hww
      generalize hWQ : W3.drewN q = Wq at hcw ⊢
      have HWQ := Lib.hid hWQ
      clear hWQ
      go_wp2
      go_quiet (first | (go_at_call 36; with_reducible exact quiet_same (HT6.out _)) | (go_at_call 36; with_reducible exact quiet_same (HT11.out _)) | (go_at_call 36; with_reducible exact quiet_same (HT25.out _)))
      go_wp2_with fail
      refine (HT2.out _).mono ?_
      rintro e' w' ⟨rfl, rfl⟩
      go_wp2_with fail
      refine (HT13.out _).mono ?_
      rintro e' w' ⟨rfl, rfl⟩
      go_wp2_with fail
      refine (HT22.out _).mono ?_
      rintro e' w' ⟨rfl, rfl⟩
      go_wp2
      go_roundg gk
      case measure => omega
      case rel => exact ⟨i + 1, q + nq, by have := HIG.out; omega, by go_num, by rw [HRN.out.1], by rw [HRN.out.2.1], by rw [HRN.out.2.2.1], by rw [HRN.out.2.2.2.1], by rw [HRN.out.2.2.2.2.1], by rw [HRN.out.2.2.2.2.2.1], by rw [HRN.out.2.2.2.2.2.2.1], by rw [HRN.out.2.2.2.2.2.2.2], by rw [← HWQ.out, World.drewN_drewN]⟩
end Go.Proofs.YtfhmafncpodlbaaDoor

/-
  A region that draws its order, whose first operations leave every world of a class in that class and yield the same values in all of them, and whose last operations follow in a forced order: one walk of the text's order serves every order. Conditions: none; of no program in particular.
-/
namespace Go.Proofs.YtfhmafncpodlbaaDoor
open Go

section
variable {P : Program} {ops : Array Oper} {md : Region.Mode} {C : World → Prop}

/-- f operations below n come up in whatever order, each quiet in the class; then L. -/
def ahead (P : Program) (md : Region.Mode) (ops : Array Oper) (C : World → Prop) (n : Nat) (L : Array Bool → Act → Prop) : Nat → Array Bool → Act → Prop
  | 0, listed, a => L listed a
  | f + 1, listed, a => Region.ready md ops listed ≠ [] ∧ ∀ i, i ∈ Region.ready md ops listed → i < n ∧ qOp P ops C i (ahead P md ops C n L f (listed.setIfInBounds i true)) a

theorem wpAny_of_ahead {n g : Nat} {L : Array Bool → Act → Prop} {Q' : Exit → Act → World → Prop} (hL : ∀ listed a w, C w → L listed a → wpAny P md ops Q' g listed a w) (f : Nat) :
    ∀ (listed : Array Bool) (a : Act) (w : World), C w → ahead P md ops C n L f listed a → wpAny P md ops Q' (f + g) listed a w := by
  induction f with
  | zero => intro listed a w hw h; rw [Nat.zero_add]; exact hL _ _ _ hw h
  | succ f ih =>
    intro listed a w hw h
    rw [Nat.succ_add]
    exact ⟨fun h0 => absurd h0 h.1, fun i hi => wpOp_of_qOp hw (fun a' w' hw' h' => ih _ a' w' hw' h') (h.2 i hi).2⟩

/-- What may come up now may be taken first. -/
theorem ahead_first {n i : Nat} {oi : Oper} {v : Value} {L : Array Bool → Act → Prop} (hi : ops[i]? = some oi) (hsel : ∀ (j : Nat) (o : Oper) cs b, ops[j]? = some o → o.op ≠ .select cs b)
    (hs : Region.sinkB md ops n = true) (hc : Region.chainB md ops n = true) (hn : n < ops.size) (hin : i < n)
    (hdone : ∀ listed a, L listed a → ∀ j ∈ Region.ready md ops listed, n ≤ j) (f : Nat) :
    ∀ (listed : Array Bool) (a : Act), HeadInv md ops n listed →
      (∀ j oj, ops[j]? = some oj → j ≠ i → listed.getD j true = false → (∀ e ∈ oj.after, Region.binds md e = true → e.on ≠ i) → oi.apart ops oj = true) →
      i ∈ Region.ready md ops listed → YieldsIn P ops C oi v a →
      ahead P md ops C n L f (listed.setIfInBounds i true) (a.put oi.dst v) → ahead P md ops C n L (f + 1) listed a := by
  induction f with
  | zero =>
    intro listed a inv _ hr hy H
    refine ⟨List.ne_nil_of_mem hr, fun j hj => ?_⟩
    have hjn : j < n := Nat.lt_of_not_le fun h => tail_waits hs hc hn inv _ i rfl hin (mem_ready.1 hr).1 j h hj
    by_cases hji : j = i
    · subst hji; exact ⟨hjn, hy.qOp hi H⟩
    · exact absurd (hdone _ _ H j (ready_mono hj hji)) (by omega)
  | succ f ih =>
    intro listed a inv hfree hr hy H
    have hun := (mem_ready.1 hr).1
    refine ⟨List.ne_nil_of_mem hr, fun j hj => ?_⟩
    have hjn : j < n := Nat.lt_of_not_le fun h => tail_waits hs hc hn inv _ i rfl hin hun j h hj
    by_cases hji : j = i
    · subst hji; exact ⟨hjn, hy.qOp hi H⟩
    obtain ⟨hjun, oj, hoj, hall⟩ := mem_ready.1 hj
    have hap := hfree j oj hoj hji hjun fun e he hb heq => by
      have h1 := hall e he hb
      rw [heq, getD_both hun] at h1
      cases h1
    refine ⟨hjn, qOp_mono (fun a' h3 => ih (listed.setIfInBounds j true) a' (inv.set hj hjn) ?_ (ready_mono hr (Ne.symm hji)) h3.1 ?_)
      (qOp_put hoj hap (fun cs b => hsel i oi cs b hi) (fun cs b => hsel j oj cs b hoj) hy (H.2 j (ready_mono hj hji)).2)⟩
    · intro k ok hk hki hu hno
      refine hfree k ok hk hki ?_ hno
      by_cases hjk : j = k
      · subst hjk; exact hjun
      · rwa [getD_set_ne true hjk] at hu
    · rw [Array.setIfInBounds_comm _ _ hji]; exact h3.2

theorem ahead_lex {n g : Nat} {Lq : Act → Prop} (hsel : Region.noSelect ops = true) (hs : Region.sinkB md ops n = true) (hc : Region.chainB md ops n = true) (hn : n < ops.size) (l : List Oper) :
    ∀ (k : Nat) (listed : Array Bool) (a : Act), (∀ j, j < l.length → l[j]? = ops[k + j]?) → k + l.length = n → HeadInv md ops n listed →
    Region.lexHead md ops g l.length k listed = true → wpQuiet P ops C Lq l a →
    ahead P md ops C n (fun listed' a' => Region.seqB md ops g n listed' = true ∧ Lq a') l.length listed a := by
  induction l with
  | nil =>
    intro k listed a _ hk _ hB h
    obtain rfl : k = n := by simpa using hk
    exact ⟨by simpa [Region.lexHead] using hB, h⟩
  | cons o l ih =>
    intro k listed a hl hk inv hB h
    have h0 : ops[k]? = some o := by simpa using (hl 0 (by simp)).symm
    simp only [List.length_cons, Region.lexHead, Bool.and_eq_true] at hB hk
    have hr : k ∈ Region.ready md ops listed := by simpa using hB.1.1
    obtain ⟨v, hy, hK⟩ := yieldsIn_of_qOp (C := C) (K := wpQuiet P ops C Lq l) h0 (by unfold qOp; simp only [h0]; exact h)
    refine ahead_first h0 (Region.noSelect_spec hsel) hs hc hn (by omega) (fun _ _ hL => seqB_ready hL.1) l.length listed a inv (Region.free_spec h0 hB.1.2) hr hy ?_
    exact ih (k + 1) _ _ (fun j hj => by have := hl (j + 1) (by simp; omega); simpa [Nat.add_assoc, Nat.add_comm 1 j] using this) (by omega) (inv.set hr (by omega)) hB.2 hK

theorem any_quiet_tail {Q : Exit → Act → World → Prop} {a : Act} {w : World} {l : List Oper} (n : Nat) (C : World → Prop) (hB : Region.lexTailB .any l.toArray n = true) (hC : C w.drew)
    (h : wpQuiet P l.toArray C (fun a' => ∀ w', C w' → wpList P l.toArray Q (l.drop n) a' w') (l.take n) a) : wpAny P .any l.toArray Q l.toArray.size (Array.replicate l.toArray.size false) a w.drew := by
  simp only [Region.lexTailB, Bool.and_eq_true, decide_eq_true_eq] at hB
  obtain ⟨⟨⟨⟨hsel, hn⟩, hs⟩, hc⟩, hlex⟩ := hB
  have hn' : n < l.length := by simpa using hn
  have htl : (l.take n).length = n := by rw [List.length_take]; omega
  have hdl : (l.drop n).length = l.toArray.size - n := by simp
  have inv0 : HeadInv .any l.toArray n (Array.replicate l.toArray.size false) :=
    ⟨by simp, fun j oj _ hl => (by rw [getD_replicate_false] at hl; cases hl), fun t _ ht => getD_in (by simpa using ht) (getD_replicate_false _ _)⟩
  have H := ahead_lex (md := .any) (g := l.toArray.size - n) (C := C) hsel hs hc hn (l.take n) 0 _ a (fun j hj => by
    have hj' : j < n := by rwa [htl] at hj
    simp [hj']) (by rw [htl]; exact Nat.zero_add n) inv0 (by rw [htl]; exact hlex) h
  have key := wpAny_of_ahead (C := C) (Q' := Q) (g := l.toArray.size - n) (fun listed a' w' hw' hL => by
    have := wpAny_of_seq (md := .any) (Q' := Q) (l.drop n) n listed a' w' (fun j => by simp [List.getElem?_drop]) (by rw [hdl]; exact hL.1) (hL.2 w' hw')
    rwa [hdl] at this) _ _ _ _ hC H
  rw [htl, show n + (l.toArray.size - n) = l.toArray.size by omega] at key
  exact key
theorem wp_region_quiet_tail {id : Nat} {Q : Exit → Act → World → Prop} {a : Act} {w : World} {l : List Oper} (n : Nat) (C : World → Prop) (hm : P.follows .mixedOrders = true) (hB : Region.lexTailB .any l.toArray n = true) (hC : C w.drew)
    (h : wpQuiet P l.toArray C (fun a' => ∀ w', C w' → wpList P l.toArray Q (l.drop n) a' w') (l.take n) a) : (Code.region id l.toArray true).wp P Q a w :=
  wp_region_any hm (any_quiet_tail n C hB hC h)
end
end Go.Proofs.YtfhmafncpodlbaaDoor

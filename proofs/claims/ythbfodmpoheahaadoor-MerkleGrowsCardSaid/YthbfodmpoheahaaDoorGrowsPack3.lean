/-
  Part 3 of the texts that the seat's proofs stand on; each part of it begins with its own sentence and conditions. Conditions: those that each theorem names.
-/
import Derived.Test.YthbfodmpoheahaaDoorGrowsPack2
import Derived.Great.BuildSlice
import Derived.RangeFuncNested
import Derived.RangeFuncBox
import Derived.RangeFuncBound
import Derived.RangeFuncCalls
import Derived.RangeFuncLeaves
import Derived.Shelf.Abstract
import Derived.Shelf.RegionOpen
import Derived.WalkKit
import Derived.OwnWalkIn
import Derived.TacticsInMore
import Derived.LoopNIn
import Derived.LoopIn
import Derived.StillTail
import Derived.Deep.Quiet
import Derived.Deep.QuietTactic
import Derived.BigQuiet
import Derived.KernelRfl
import Derived.OrdersIn
import Derived.Lib.Hide
import Derived.Lib.SliceRun
import Derived.Lib.AppendZeros
import Derived.Orders

/-
  Digests compared; literals of bytes and of digests. Conditions: none.
-/
namespace Go.Proofs.YthbfodmpoheahaaDoor
open Go.RowKit
open Pol (co Sm)

theorem Dgc.is {c : Array Value} {l : List Nat} (h : Dgc c l) : c = bt 32 (co l) := by
  apply Array.ext
  · rw [h.1, bt_size]
  · intro i h1 h2
    have hi : i < 32 := by rw [← h.1]; exact h1
    rw [← Option.some_inj, ← Array.getElem?_eq_getElem, ← Array.getElem?_eq_getElem, h.2 i hi, bt_at 32 _ i hi]
theorem bt_dgc (l : List Nat) : Dgc (bt 32 (co l)) l := ⟨bt_size _ _, fun i hi => bt_at 32 _ i hi⟩
theorem co_ext32 {a b : List Nat} (ha : a.length = 32) (hb : b.length = 32) (h : ∀ i, i < 32 → co a i = co b i) : a = b := by
  apply List.ext_getElem (by omega)
  intro j h1 h2
  have := h j (by omega)
  unfold co at this
  rw [List.getElem?_eq_getElem h1, List.getElem?_eq_getElem h2] at this
  exact this
/-- Two digests compared. -/
theorem eq_dgc {c d : Array Value} {a b : List Nat} (hc : Dgc c a) (hd : Dgc d b) (ha : a.length = 32) (hb : b.length = 32) (hsa : Sm a) (hsb : Sm b) (W : World) : (Op.equalIn 10000 30 (.agg c) (.agg d)).run Tryd.prog W = .ok (decide (a = b)) W := by
  obtain ⟨r, h1, h2⟩ := eq32 (co a) (co b) (fun i _ => hsa i) (fun i _ => hsb i) W
  rw [hc.is, hd.is, h1]
  by_cases e : a = b
  · rw [decide_eq_true e, h2.2 (fun i _ => by rw [e])]
  · have hr : r = false := by
      cases r
      · rfl
      · exact absurd (co_ext32 ha hb (h2.1 rfl)) e
    rw [decide_eq_false e, hr]
theorem run_eq_dgc {c d : Array Value} {a b : List Nat} (hc : Dgc c a) (hd : Dgc d b) (ha : a.length = 32) (hb : b.length = 32) (hsa : Sm a) (hsb : Sm b) (W : World) : (binOp .eql 30 (.agg c) (.agg d)).run Tryd.prog W = .ok (.bool (decide (a = b))) W := by
  simp only [binOp]
  simp [Op.equal, Op.maxDepth, eq_dgc hc hd ha hb hsa hsb W]
def AfterH (u w : World) : Prop := Ext u w
def one32 (x : Nat) : List Nat := x :: List.replicate 31 0
theorem one32_len (x : Nat) : (one32 x).length = 32 := rfl
theorem rd_mark10 (w : World) (l : List Nat) (fr : Nat × Nat) (h : Sm l) : Rd (w.alloc (.cells (bv l).toArray 5 fr)) (some ⟨w.heap.size, 0, none⟩) l :=
  ⟨h, fun i hi => ⟨w.heap.size, 0, rfl, by
    rw [cell_of_row _ _ _ _ _ _ (heap_alloc_new w _), Nat.zero_add]
    simpa using bv_at l i hi⟩⟩
theorem bv_dgc {l : List Nat} (h : l.length = 32) : Dgc (bv l).toArray l := ⟨by simp [bv_len, h], fun i hi => by rw [List.getElem?_toArray]; exact bv_at l i (by omega)⟩
def shabc : List Nat := sha [97, 98, 99]
theorem shabc_is : shabc = [186, 120, 22, 191, 143, 1, 207, 234, 65, 65, 64, 222, 93, 174, 34, 35, 176, 3, 97, 163, 150, 23, 122, 156, 180, 16, 255, 97, 242, 0, 21, 173] := sha_abc
theorem run_ne_dgc {c d : Array Value} {a b : List Nat} (hc : Dgc c a) (hd : Dgc d b) (ha : a.length = 32) (hb : b.length = 32) (hsa : Sm a) (hsb : Sm b) (W : World) : (binOp .neq 30 (.agg c) (.agg d)).run Tryd.prog W = .ok (.bool (!decide (a = b))) W := by
  simp only [binOp]
  simp [Op.equal, Op.maxDepth, eq_dgc hc hd ha hb hsa hsb W]
end Go.Proofs.YthbfodmpoheahaaDoor

/-
  A digest's cells, laid into a new block. Conditions: none.
-/
namespace Go.Proofs.YthbfodmpoheahaaDoor
open Go.RowKit
open Pol (co Sm)

/-- A block that was made stays. -/
theorem WBlk.ext' {w w' : World} {g : Nat} {V : Array Value} {T : TypeId} (h : w.heap[g]? = some (.cells V T (0, 0))) (hx : Ext w w') : w'.heap[g]? = some (.cells V T (0, 0)) :=
  (hx.below.block g (Array.getElem?_eq_some_iff.1 h).1).trans h
theorem Dgc.one {V : Array Value} {l : List Nat} (h : Dgc V l) : V.all (·.oneCell') = true := by
  rw [Array.all_eq_true]
  intro i hi
  have e := h.2 i (by rw [h.1] at hi; exact hi)
  rw [Array.getElem?_eq_getElem hi] at e
  injection e with e
  rw [e]
  rfl
theorem Dgc.info {V : Array Value} {l : List Nat} (h : Dgc V l) : (Tryd.prog.info? 30).map (·.size) = some V.size := by rw [h.1]; exact zero_digest.2
/-- A digest's cells, laid into a new block. -/
theorem dg_put {c : Array Value} {l : List Nat} (h : Dgc c l) : (Tryd.prog.info? 30).map (·.size) = some c.size ∧ (bt 32 fun _ => 0).size = c.size ∧ c.all (·.oneCell') = true := by
  refine ⟨by rw [h.1]; exact zero_digest.2, by rw [bt_size, h.1], ?_⟩
  rw [h.is]
  exact bt_one 32 _
end Go.Proofs.YthbfodmpoheahaaDoor

/-
  Parts of slices of rows. Conditions: none; no function is named here.
-/
namespace Go.Proofs.YthbfodmpoheahaaDoor
open Go.RowKit
open Pol (co Sm)

/-- s[:h] of rows. -/
theorem run_to_rows (A : Option Addr) (len cap h : Nat) (hh : h ≤ cap) (W : World) :
    (Instr.slice 22 (.slice A len cap) none (some (.int .i64 (h : Int))) none).run Tryd.prog W = .ok (.slice A h cap) W := by
  obtain ⟨i0, hi, hz0, hz1, hz2⟩ := info_parts row_info
  have he : Tryd.prog.elem 22 = 35 := by kernel_rfl
  rw [run_slice_h W 22 _ len cap (by rw [he]; exact Tryd.underlying22) .i64 (h : Int) (by omega) (by omega), he]
  cases A <;> simp [sizeOf, typeInfo, hi, hz1, Result.andThen, sliced, Addr.add]
theorem ro_take (rows : List (List Nat)) (k i : Nat) (h : i < k) : ro (rows.take k) i = ro rows i := by unfold ro; rw [List.getElem?_take, if_pos h]
theorem RRd.take {w : World} {A : Option Addr} {rows : List (List Nat)} (h : RRd w A rows) (k : Nat) : RRd w A (rows.take k) := fun i hi => by
  rw [List.length_take] at hi
  rw [ro_take rows k i (by omega)]
  exact h i (by omega)
/-- s[l:] of rows, whole. -/
theorem run_rest_rows (A : Option Addr) (len cap l : Nat) (hl : l ≤ len) (hc : len ≤ cap) : ∃ X : Option Addr, (∀ W, (Instr.slice 22 (.slice A len cap) (some (.int .i64 (l : Int))) none none).run Tryd.prog W = .ok (.slice X (len - l) (cap - l)) W) ∧
    (∀ w rows, RRd w A rows → rows.length = len → RRd w X (rows.drop l)) := by
  obtain ⟨i0, hi, hz0, hz1, hz2⟩ := info_parts row_info
  have he : Tryd.prog.elem 22 = 35 := by kernel_rfl
  refine ⟨if cap = l then A else A.map (·.add l), fun W => ?_, fun w rows h hL i hi => ?_⟩
  · rw [run_slice_l W 22 _ len cap (by rw [he]; exact Tryd.underlying22) .i64 (l : Int) (by omega) (by omega), he]
    cases A <;> simp [sizeOf, typeInfo, hi, hz1, Result.andThen, sliced]
  · rw [List.length_drop] at hi
    have e : ro (rows.drop l) i = ro rows (l + i) := by unfold ro; rw [List.getElem?_drop]
    obtain ⟨b', o', B, c, e', hc', hl', hr'⟩ := h (l + i) (by omega)
    subst e'
    refine ⟨b', o' + l, B, c, by rw [if_neg (by omega)]; simp [addr_add], ?_, ?_, ?_⟩
    · rw [e, Nat.add_assoc]; exact hc'
    · rw [e]; exact hl'
    · rw [e]; exact hr'
end Go.Proofs.YthbfodmpoheahaaDoor

/-
  Digests as values, and slices of digests that read as a list of digests. Conditions: the lengths add up to no more than 2^20.
-/
namespace Go.Proofs.YthbfodmpoheahaaDoor
open Go.RowKit
open Pol (co Sm)

/-- A digest as a value. -/
def dgv (d : List Nat) : Value := .agg (bt 32 (co d))
theorem Dgc.val {c : Array Value} {d : List Nat} (h : Dgc c d) : Value.agg c = dgv d := by rw [h.is]; rfl
theorem DgS.tells {d : List Nat} {w : World} {e : Ending} {w' : World} (h : DgS d w e w') : Tells (dgv d) w e w' := by
  obtain ⟨c, rfl, hc, hx⟩ := h
  exact ⟨by rw [hc.val], hx⟩
theorem Tells.dg {d : List Nat} {w : World} {e : Ending} {w' : World} (h : Tells (dgv d) w e w') : DgS d w e w' := ⟨_, h.1, bt_dgc d, h.2⟩
/-- The cells of digests. -/
theorem co_flat : ∀ (ds : List (List Nat)) (i j : Nat), (∀ d ∈ ds, d.length = 32) → j < 32 → i < ds.length → co ds.flatten (i * 32 + j) = co (ro ds i) j
  | d :: ds, 0, j, h, hj, _ => by
    have hd := h d (by simp)
    have e : co (d ++ ds.flatten) j = co d j := by unfold co; rw [List.getElem?_append_left (by omega)]
    rw [List.flatten_cons, Nat.zero_mul, Nat.zero_add]
    exact e
  | d :: ds, i + 1, j, h, hj, hi => by
    have hd := h d (by simp)
    have ih := co_flat ds i j (fun x hx => h x (by simp [hx])) hj (by simpa using hi)
    have e : co (d ++ ds.flatten) ((i + 1) * 32 + j) = co ds.flatten (i * 32 + j) := by
      unfold co
      rw [List.getElem?_append_right (by omega), hd, show (i + 1) * 32 + j - 32 = i * 32 + j from by omega]
    rw [List.flatten_cons, e, ih]
    rfl
theorem flat_len : ∀ ds : List (List Nat), (∀ d ∈ ds, d.length = 32) → ds.flatten.length = ds.length * 32
  | [], _ => rfl
  | d :: ds, h => by
    rw [List.flatten_cons, List.length_append, h d (by simp), flat_len ds (fun x hx => h x (by simp [hx])), List.length_cons]
    omega
/-- From address A on lie the digests ds. -/
def DRd (w : World) (A : Option Addr) (ds : List (List Nat)) : Prop := (∀ d ∈ ds, d.length = 32) ∧ Rd w A ds.flatten
theorem DRd.ext {w w' : World} {A : Option Addr} {ds : List (List Nat)} (h : DRd w A ds) (hx : Ext w w') : DRd w' A ds := ⟨h.1, h.2.ext hx⟩
theorem DRd.nil (w : World) (A : Option Addr) : DRd w A [] := ⟨fun _ h => absurd h (by simp), Rd.nil _ _⟩
theorem DRd.addr {w : World} {A : Option Addr} {ds : List (List Nat)} (h : DRd w A ds) (hl : 0 < ds.length) : ∃ b o, A = some ⟨b, o, none⟩ ∧ ∀ i, i < ds.length → ∀ j, j < 32 → w.cell? ⟨b, o + i * 32 + j, none⟩ = some (.int .u8 ((co (ro ds i) j : Nat) : Int)) := by
  have hf := flat_len ds h.1
  obtain ⟨b, o, e, hc⟩ := h.2.addr (by omega)
  refine ⟨b, o, e, fun i hi j hj => ?_⟩
  rw [Nat.add_assoc, hc _ (by omega), co_flat ds i j h.1 hj hi]
theorem DRd.one {w : World} {A : Option Addr} {ds : List (List Nat)} (h : DRd w A ds) (i : Nat) (hi : i < ds.length) : (ro ds i).length = 32 ∧ Sm (ro ds i) := by
  refine ⟨h.1 _ (ro_in ds i hi), fun j => ?_⟩
  by_cases hj : j < 32
  · rw [← co_flat ds i j h.1 hj hi]
    exact h.2.1 _
  · rw [Pol.co_out _ _ (by rw [h.1 _ (ro_in ds i hi)]; omega)]
    omega
theorem DRd.sm {w : World} {A : Option Addr} {ds : List (List Nat)} (h : DRd w A ds) : ∀ d ∈ ds, Sm d := fun d hd => by
  obtain ⟨i, hi, rfl⟩ := ro_mem hd
  exact (h.one i hi).2
theorem flat_take : ∀ (ds : List (List Nat)) (k : Nat), (∀ d ∈ ds, d.length = 32) → (ds.take k).flatten = ds.flatten.take (k * 32)
  | [], k, _ => by simp
  | d :: ds, 0, _ => by simp
  | d :: ds, k + 1, h => by
    have hd := h d (by simp)
    rw [List.take_succ_cons, List.flatten_cons, flat_take ds k (fun x hx => h x (by simp [hx])), List.flatten_cons, List.take_append, hd, List.take_of_length_le (l := d) (by omega), show (k + 1) * 32 - 32 = k * 32 from by omega]
theorem DRd.take {w : World} {A : Option Addr} {ds : List (List Nat)} (h : DRd w A ds) (k : Nat) : DRd w A (ds.take k) :=
  ⟨fun d hd => h.1 d (List.mem_of_mem_take hd), by rw [flat_take ds k h.1]; exact h.2.take _⟩
theorem bt_list (f : Nat → Nat) (n : Nat) : bt n f = ((List.range n).map fun j => Value.int .u8 ((f j : Nat) : Int)).toArray := by
  apply Array.ext
  · rw [bt_size]; simp
  · intro i h1 h2
    rw [bt_size] at h1
    rw [← Option.some_inj, ← Array.getElem?_eq_getElem, ← Array.getElem?_eq_getElem, bt_at n f i h1]
    simp [h1]
/-- A load of a digest in the midst of a block. -/
theorem run_load_dig (w : World) (b o : Nat) (d : List Nat) (h : ∀ j, j < 32 → w.cell? ⟨b, o + j, none⟩ = some (.int .u8 ((co d j : Nat) : Int))) :
    (Instr.loadAt 30 (.pointer (some ⟨b, o, none⟩))).run Tryd.prog w = .ok (dgv d) w := by
  obtain ⟨i0, hi, hz⟩ : ∃ i, Tryd.prog.info? 30 = some i ∧ i.size = 32 := by
    have h := zero_digest.2
    cases hi : Tryd.prog.info? 30 with
    | none => rw [hi] at h; cases h
    | some i => rw [hi] at h; injection h with h; exact ⟨i, rfl, h⟩
  have hcells := run_loadCells (P := Tryd.prog) w ⟨b, o, none⟩ 32 (fun j => .int .u8 ((co d j : Nat) : Int)) (fun j hj => by rw [addr_add]; exact h j hj)
  simp only [Instr.loadAt, Instr.sureAddr, Sem.run_bind, Sem.run_pure, Result.andThen, loadVar]
  simp [isAgg, run_underlying Tryd.underlying30, sizeOf, typeInfo, hi, hz, Result.andThen, hcells]
  unfold dgv
  rw [bt_list]
theorem mine_lit11 (w : World) (l : List Nat) (h : l.length ≤ 1048576) : Mine (w.alloc (.cells (bv l).toArray 5)) w.heap.size (.slice (some ⟨w.heap.size, 0, none⟩) l.length l.length) l := by
  have h1 := World.ownsRow_lit w (e := 5) (size := 1) (base := w.heap.size) (bv l).toArray l.length (Nat.le_refl _) (by unfold maxLen; omega) (by simp [bv_len])
  exact h1
end Go.Proofs.YthbfodmpoheahaaDoor

/-
  Slices of digests of a call's own: a literal of one digest, and what append does. Conditions: the lengths add up to no more than 2^20.
-/
namespace Go.Proofs.YthbfodmpoheahaaDoor
open Go.RowKit
open Pol (co Sm)

theorem dig_info : (Tryd.prog.info? 30).map (fun i => (i.zero, i.size, i.bytes)) = some (some (.agg (bt 32 fun _ => 0)), 32, 32) := by kernel_rfl
theorem agg_size (c : Array Value) (h : c.size = 32) : (Value.agg c).cells.size = 32 := h
/-- A slice of the call's own, of the digests ds. -/
def DMine (w : World) (base : Nat) (v : Value) (ds : List (List Nat)) : Prop := (∀ d ∈ ds, d.length = 32 ∧ Sm d) ∧ w.ownsRow base 30 32 v ds.length (bv ds.flatten)
theorem flat_sm : ∀ ds : List (List Nat), (∀ d ∈ ds, Sm d) → Sm ds.flatten
  | [], _ => Sm.nil
  | d :: ds, h => by
    rw [List.flatten_cons]
    exact sm_app (h d (by simp)) (flat_sm ds (fun x hx => h x (by simp [hx])))
theorem DMine.nil (w : World) (base : Nat) : DMine w base (.slice none 0 0) [] := ⟨fun _ h => absurd h (by simp), World.ownsRow_nil w base _ _⟩
theorem DMine.slice {w : World} {base : Nat} {v : Value} {ds : List (List Nat)} (h : DMine w base v ds) : ∃ B c, v = .slice B ds.length c ∧ ds.length ≤ c ∧ DRd w B ds := by
  have hf := flat_len ds (fun d hd => (h.1 d hd).1)
  rcases h.2.2 with ⟨rfl, hn⟩ | ⟨g, cap, cur, rfl, _, hg, hnc, _, _, htake⟩
  · have : ds = [] := List.eq_nil_of_length_eq_zero hn
    subst this
    exact ⟨none, 0, rfl, Nat.le_refl _, DRd.nil _ _⟩
  · refine ⟨_, cap, rfl, hnc, fun d hd => (h.1 d hd).1, flat_sm ds (fun d hd => (h.1 d hd).2), fun i hi => ⟨g, 0, rfl, ?_⟩⟩
    rw [Nat.zero_add, cell_of_row w g i cur _ _ hg, ← bv_at _ i hi, ← htake, List.getElem?_take, if_pos (by omega)]
    simp
theorem DMine.ext {w w' : World} {base : Nat} {v : Value} {ds : List (List Nat)} (h : DMine w base v ds) (hx : Ext w w') : DMine w' base v ds :=
  ⟨h.1, World.ownsRow.kept h.2 (row := none) ⟨hx.below.os, hx.below.tape, hx.below.output, hx.below.size, fun k hk _ => hx.below.block k hk⟩ (by
    cases hb : v.ownBlock with
    | none => exact .inl rfl
    | some k => exact .inr (by simp))⟩
theorem DMine.block {w : World} {base : Nat} {v : Value} {ds : List (List Nat)} (h : DMine w base v ds) : ∀ k, v.ownBlock = some k → base ≤ k ∧ k < w.heap.size := fun k hk => World.ownsRow.lt h.2 k hk
theorem DMine.down {w : World} {base base' : Nat} {v : Value} {ds : List (List Nat)} (h : DMine w base v ds) (hb : base' ≤ base) : DMine w base' v ds := ⟨h.1, h.2.1, h.2.2.imp id fun ⟨g, cap, cur, h1, h2, h3⟩ => ⟨g, cap, cur, h1, Nat.le_trans hb h2, h3⟩⟩
/-- A literal of one digest. -/
theorem fill_one (V base : Array Value) (hV : V.size = 32) (hb : base.size = 32) : Instr.fill (fun i => some (i * 32, 32)) base [(0, .agg V)] = some V := by
  have e : Instr.fill (fun i => some (i * 32, 32)) base [(0, .agg V)] = if V.size ≠ 32 || 0 * 32 + V.size > base.size then none else some (putIn (0 * 32) V base) := rfl
  rw [e, hV, hb, if_neg (by decide)]
  congr 1
  apply Array.ext
  · rw [putIn_size, hb, hV]
  · intro i h1 h2
    rw [← Option.some_inj, ← Array.getElem?_eq_getElem, ← Array.getElem?_eq_getElem, putIn_at, if_pos (by omega), Nat.zero_mul, Nat.sub_zero]
theorem run_build_dig (V : Array Value) (hV : V.size = 32) (w : World) :
    (Instr.buildSlice 25 1 #[(0, .agg V)]).run Tryd.prog w = .ok (.slice (some ⟨w.heap.size, 0, none⟩) 1 1) (w.alloc (.cells V 30)) := by
  obtain ⟨i0, hi, hz0, hz1, hz2⟩ := info_parts dig_info
  refine run_buildSlice w 25 30 1 _ _ i0 _ Tryd.underlying25 hi hz0 (by rw [hz1]; decide) (by rw [hz1]; decide) ?_
  rw [hz1]
  exact fill_one V _ hV (by simp)
theorem wpList_build_dig {ops : Array Oper} {rest : List Oper} {o : Oper} {a : Act} {w : World} {Q : Exit → Act → World → Prop} (hg : o.guard = none) (x : Operand)
    (ho : o.op = .buildSlice 25 1 #[(0, x)]) (V : Array Value) (hx : a.eval x = .agg V) (hV : V.size = 32)
    (h : wpList Tryd.prog ops Q rest (a.put o.dst (.slice (some ⟨w.heap.size, 0, none⟩) 1 1)) (w.alloc (.cells V 30))) : wpList Tryd.prog ops Q (o :: rest) a w :=
  wpList_plain hg fun K hK => by
    unfold Oper.wp execOp
    have e : (#[(0, x)] : Array (Nat × Operand)).map (fun (i, x) => (i, a.eval x)) = #[(0, .agg V)] := by simp [hx]
    simp only [ho, Sem.run_bind, e, run_build_dig V hV, Result.andThen_ok]
    exact hK _ _ h
theorem bt_bv {d : List Nat} (h : d.length = 32) : bt 32 (co d) = (bv d).toArray := by
  apply Array.ext
  · rw [bt_size]; simp [bv_len, h]
  · intro i h1 h2
    rw [bt_size] at h1
    rw [← Option.some_inj, ← Array.getElem?_eq_getElem, ← Array.getElem?_eq_getElem, bt_at 32 _ i h1, List.getElem?_toArray, bv_at d i (by omega)]
theorem one_dmine (w : World) (d : List Nat) (h : d.length = 32) (hs : Sm d) : DMine (w.alloc (.cells (bt 32 (co d)) 30)) w.heap.size (.slice (some ⟨w.heap.size, 0, none⟩) 1 1) [d] := by
  refine ⟨fun x hx => by simp at hx; subst hx; exact ⟨h, hs⟩, ?_⟩
  rw [bt_bv h]
  have h1 := World.ownsRow_lit w (e := 30) (size := 32) (base := w.heap.size) (bv d).toArray 1 (Nat.le_refl _) (by unfold maxLen; omega) (by simp [bv_len, h])
  simpa using h1
theorem run_append_drd (w : World) (base : Nat) (ty : TypeId) (v : Value) (l m : List (List Nat)) (hown : DMine w base v l) (A : Option Addr) (c : Nat) (hr : DRd w A m)
    (hlen : l.length + m.length ≤ 1048576) (hbase : base ≤ w.heap.size) :
    ∃ v' w', (Builtin.append_ #[25, 25] ty #[v, .slice A m.length c]).run Tryd.prog w = .ok v' w' ∧ DMine w' base v' (l ++ m) ∧ w.grownBy w' v.ownBlock ∧ (v'.ownBlock = v.ownBlock ∨ v'.ownBlock = some w.heap.size) := by
  obtain ⟨i0, hi, hz0, hz1, hz2⟩ := info_parts dig_info
  have hf := flat_len m hr.1
  cases A with
  | none =>
    have hm : m = [] := by
      rcases Nat.eq_zero_or_pos m.length with h | h
      · exact List.eq_nil_of_length_eq_zero h
      · obtain ⟨_, _, e, _⟩ := hr.addr h; cases e
    subst hm
    refine ⟨v, w, ?_, by simpa using hown, ⟨rfl, rfl, rfl, Nat.le_refl _, fun _ _ _ => rfl⟩, .inl rfl⟩
    rcases hown.2.2 with ⟨rfl, _⟩ | ⟨g, cap, cur, rfl, _, _, hnc, _⟩
    · simp [Builtin.append_, run_underlying Tryd.underlying25, sizeOf, typeInfo, hi, Builtin.lenOf, Builtin.firstCells]
    · simp [Builtin.append_, run_underlying Tryd.underlying25, sizeOf, typeInfo, hi, Builtin.lenOf, Builtin.firstCells, hnc, storeCells]
  | some a =>
    have hcells : ∀ j u, (bv m.flatten)[j]? = some u → w.cell? (a.add j) = some u := by
      intro j u hu
      have hj : j < m.flatten.length := by
        have := (List.getElem?_eq_some_iff.1 hu).1
        rwa [bv_len] at this
      obtain ⟨b, o, e, h1⟩ := hr.2.2 j hj
      injection e with e
      subst e
      rw [addr_add, h1, ← hu, bv_at _ j hj]
    obtain ⟨v', w', h1, h2, h3, _, h5⟩ := run_append_own_at (P := Tryd.prog) w base 25 ty 30 i0 (.agg (bt 32 fun _ => 0)) 32 32 Tryd.underlying25 hi hz0 hz1 hz2 (agg_size _ (bt_size _ _)) (by omega) v l.length (bv l.flatten) hown.2 a m.length c (bv m.flatten) (by rw [bv_len, hf]) hcells (bv_one _)
      (by unfold maxLen; omega) (by omega) hbase
    refine ⟨v', w', h1, ⟨fun d hd => ?_, ?_⟩, h3, h5⟩
    · rcases List.mem_append.1 hd with h | h
      · exact hown.1 d h
      · exact ⟨hr.1 d h, hr.sm d h⟩
    · rw [List.length_append, List.flatten_append, bv_append]; exact h2
/-- At the operation, for the walk. -/
theorem wpList_append_drd {ops : Array Oper} {rest : List Oper} {o : Oper} {a : Act} {w : World} {Q : Exit → Act → World → Prop} (hgd : o.guard = none) (s x : Operand)
    (ho : o.op = .call { callee := .builtin .append, args := #[s, x], argTypes := #[25, 25] })
    (base : Nat) (v : Value) (l m : List (List Nat)) (hs : a.eval s = v) (hown : DMine w base v l) (A : Option Addr) (n c : Nat) (hx : a.eval x = .slice A n c) (hn : m.length = n) (hr : DRd w A m)
    (hlen : l.length + m.length ≤ 1048576) (hbase : base ≤ w.heap.size)
    (h : ∀ v' w', DMine w' base v' (l ++ m) → w.grownBy w' v.ownBlock → (v'.ownBlock = v.ownBlock ∨ v'.ownBlock = some w.heap.size) → wpList Tryd.prog ops Q rest (a.put o.dst v') w') :
    wpList Tryd.prog ops Q (o :: rest) a w := by
  subst hn
  refine wpList_plain hgd fun K hK => ?_
  obtain ⟨v', w', hrun, h2, h3, h4⟩ := run_append_drd w base o.type v l m hown A c hr hlen hbase
  unfold Oper.wp execOp
  simp only [ho, resolve, invoke, builtin, Sem.run_bind, Sem.run_pure, Result.andThen_ok, List.map_toArray, List.map_cons, List.map_nil, hs, hx, hrun]
  exact hK _ _ (h v' w' h2 h3 h4)
/-- s[:h] of digests. -/
theorem run_to_dig (A : Option Addr) (len cap h : Nat) (hh : h ≤ cap) (W : World) :
    (Instr.slice 25 (.slice A len cap) none (some (.int .i64 (h : Int))) none).run Tryd.prog W = .ok (.slice A h cap) W := by
  obtain ⟨i0, hi, hz0, hz1, hz2⟩ := info_parts dig_info
  have he : Tryd.prog.elem 25 = 30 := by kernel_rfl
  rw [run_slice_h W 25 _ len cap (by rw [he]; exact Tryd.underlying25) .i64 (h : Int) (by omega) (by omega), he]
  cases A <;> simp [sizeOf, typeInfo, hi, hz1, Result.andThen, sliced, Addr.add]
/-- What a call that hands back digests of its own does. -/
def DOwn (ds : List (List Nat)) (w : World) (e : Ending) (w' : World) : Prop := ∃ v, e = .returned v ∧ DMine w' w.heap.size v ds ∧ Ext w w'
end Go.Proofs.YthbfodmpoheahaaDoor

/-
  What slices.Backward of a slice of digests does for a loop: the places come from the last one down to 0, each with the digest that stands there. Conditions: no more than 2^40 digests.
-/
namespace Go.Proofs.YthbfodmpoheahaaDoor
open Go.RowKit Go.Shelf
open Pol (co Sm)
attribute [local go_sem] Oper.semAt_some

/-- A place below n. -/
abbrev Fn' (n : Nat) : Type := { x : Nat // x < n }
/-- A round's arguments: the place, and the digest that stands there. -/
def pdv (ds : List (List Nat)) {n : Nat} (x : Fn' n) : Array Value := #[.int .i64 (x.1 : Int), dgv (ro ds x.1)]
def dns (n k : Nat) : List Nat := (List.range k).map fun j => n - 1 - j
theorem dns_succ (n k : Nat) : dns n (k + 1) = dns n k ++ [n - 1 - k] := by simp [dns, List.range_succ]
/-- What a round keeps: the slice's own box, and the digests. -/
def KpD (Bs : Nat) (s : Value) (A : Option Addr) (ds : List (List Nat)) (W W' : World) : Prop :=
  (W.cell? ⟨Bs, 0, none⟩ = some s → W'.cell? ⟨Bs, 0, none⟩ = some s) ∧ (DRd W A ds → DRd W' A ds)
theorem KpD.refl {Bs : Nat} {s : Value} {A : Option Addr} {ds : List (List Nat)} (W : World) : KpD Bs s A ds W W := ⟨id, id⟩
theorem KpD.trans {Bs : Nat} {s : Value} {A : Option Addr} {ds : List (List Nat)} {X Y Z : World} (h : KpD Bs s A ds X Y) (k : KpD Bs s A ds Y Z) : KpD Bs s A ds X Z := ⟨fun e => k.1 (h.1 e), fun e => k.2 (h.2 e)⟩
/-- A change of another block alone. -/
theorem KpD.grown {Bs : Nat} {s : Value} {A : Option Addr} {ds : List (List Nat)} {W W' : World} {row : Option Nat} (hg : W.grownBy W' row) (h1 : some Bs ≠ row) (h2 : ∀ b o, A = some ⟨b, o, none⟩ → 0 < ds.length → some b ≠ row) : KpD Bs s A ds W W' :=
  ⟨fun e => hg.cell e h1, fun h => ⟨h.1, h.2.keep hg (fun b o e h0 => h2 b o e (by
    rw [flat_len ds h.1] at h0
    omega))⟩⟩
theorem drd_block {W : World} {A : Option Addr} {ds : List (List Nat)} (h : DRd W A ds) : ∀ b o, A = some ⟨b, o, none⟩ → 0 < ds.length → b < W.heap.size := fun b o e h0 => by
  obtain ⟨b', o', e', hc⟩ := h.addr h0
  rw [e'] at e
  injection e with e
  injection e with e1 e2
  subst e1
  have := block_lt_of_cell (hc 0 h0 0 (by omega))
  simpa using this
theorem KpD.put {Bs : Nat} {s : Value} {A : Option Addr} {ds : List (List Nat)} {w : World} (h1 : Bs < w.heap.size) (h2 : ∀ b o, A = some ⟨b, o, none⟩ → 0 < ds.length → b < w.heap.size)
    (W : World) (l : Nat) (o o' : Obj) (hl : w.heap.size ≤ l) (_h : W.heap[l]? = some o) (_k1 : o.isCells = false) (_k2 : o.isWalk = false) : KpD Bs s A ds W (W.putObj l o') :=
  KpD.grown (grownBy_putObj' W l o') (fun e => by injection e with e; omega) (fun b u e h0 e' => by injection e' with e'; have := h2 b u e h0; omega)
def atD : Nat → Int
  | 0 => -1
  | g + 1 => (g : Int)
theorem atD_eq (g : Nat) : atD g = (g : Int) - 1 := by cases g <;> simp [atD]
/-- A load of a digest. -/
theorem wpListIn_load_dig {n : Nat} {ops : Array Oper} {rest : List Oper} {o : Oper} {a : Act} {w : World} {Q : Exit → Act → World → Prop} (hg : o.guard = none) (x : Operand) (ho : o.op = .load 30 x) (v : Value)
    (hrun : (Instr.loadAt 30 (a.eval x)).run Tryd.prog w = .ok v w) (h : wpListIn Fence.wide n Tryd.prog ops Q rest (a.put o.dst v) w) : wpListIn Fence.wide n Tryd.prog ops Q (o :: rest) a w := by
  refine wpListIn_plain hg fun K hK => ?_
  refine ⟨fun f _ => trivial, ?_⟩
  have e : (o.semAt Fence.wide.round a.eval).run Tryd.prog w = .ok (.value v) w := by
    show (execOp a.eval o).run Tryd.prog w = _
    simp only [execOp, ho, Sem.run_bind, hrun, Result.andThen, Sem.run_pure]
  rw [e]
  exact hK _ _ h
set_option maxRecDepth 100000 in
set_option maxHeartbeats 2000000 in
theorem backD1 (m : Nat) (hm : 1 ≤ m) (l Bs n cap : Nat) (A : Option Addr) (ds : List (List Nat)) (hds : ds.length = n) (hn : n ≤ 1099511627776) (J Jx : List (Fn' n) → World → Prop)
    (hY : ∀ pre x W, J pre W → pre.length < n → YieldAt Fence.wide (m - 1) Tryd.prog l (pdv ds x) W fun e W' =>
      (e = .returned (.bool true) ∧ J (pre ++ [x]) W' ∧ KpD Bs (.slice A n cap) A ds W W') ∨ (e = .returned (.bool false) ∧ Jx (pre ++ [x]) W'))
    (W : World) (hBs : W.cell? ⟨Bs, 0, none⟩ = some (.slice A n cap)) (hc : DRd W A ds) (h0 : J [] W) :
    CallsIn Fence.wide m Tryd.prog 60 #[.func (.yield l) #[] #[], .pointer (some ⟨Bs, 0, none⟩)] W fun e W' => (∃ v, e = .returned v) ∧
      ((∃ ys : List (Fn' n), ys.map (fun x => x.1) = dns n n ∧ J ys W') ∨ (∃ pre : List (Fn' n), (∃ k, k ≤ n ∧ pre.map (fun x => x.1) = dns n k) ∧ Jx pre W')) := by
  have HC := Lib.hid hc
  have HB := Lib.hid hBs
  have HDS := Lib.hid hds
  clear hc hds
  refine callsIn_of_wp Tryd.func60 rfl trivial ?_ rfl
  simp only [Tryd.ntmps60, List.size_toArray, List.length_cons, List.length_nil, Nat.reduceAdd, Nat.reduceSub, Array.replicate_succ, Array.replicate_zero, List.push_toArray, List.append_toArray, List.nil_append, List.cons_append]
  gi_wp2
  clear hBs
  gi_loopw [3] (fun i wr => ∃ (g : Nat) (pre : List (Fn' n)), pre.length + g = n ∧ i = .int .i64 (atD g) ∧ pre.map (fun x => x.1) = dns n pre.length ∧ J pre wr ∧ wr.cell? ⟨Bs, 0, none⟩ = some (.slice A n cap) ∧ DRd wr A ds)
    (fun i _ => (intOf i + 1).toNat)
  case atStart => exact ⟨n, [], by simp, by rw [atD_eq], rfl, h0, HB.out, HC.out⟩
  case round =>
    obtain ⟨g, pre, hpg, rfl, hpre, hJs, hb, hh⟩ := hrel
    have HH := Lib.hid hh
    have HP := Lib.hid hpre
    have HBB := Lib.hid hb
    clear hh hpre
    cases g with
    | zero =>
      dsimp only [atD]
      gi_wp2
      go_end0
      have hpl : pre.length = n := hpg
      exact ⟨⟨_, rfl⟩, .inl ⟨pre, by rw [HP.out, hpl], hJs⟩⟩
    | succ g =>
      have hgn : g < n := by omega
      obtain ⟨b, o, rfl, hcl⟩ := HH.out.addr (by rw [HDS.out]; omega)
      have HLD := Lib.hid (run_load_dig wr b (o + g * 32) (ro ds g) (fun j hj => hcl g (by rw [HDS.out]; exact hgn) j hj))
      obtain ⟨fn, tmps, assign, body, hy, hR⟩ := hY pre ⟨g, hgn⟩ wr hJs (by omega)
      dsimp only [pdv] at hy
      dsimp only [atD]
      have hgI : (g : Int) < (n : Int) := by omega
      have hpx : (pre ++ [(⟨g, hgn⟩ : Fn' n)]).map (fun x => x.1) = dns n (pre ++ [(⟨g, hgn⟩ : Fn' n)]).length := by
        rw [List.map_append, HP.out, List.length_append, List.length_singleton, dns_succ]
        congr 1
        simp
        omega
      have HX := Lib.hid hpx
      unfold dgv at hy HLD
      obtain ⟨V, hV⟩ : ∃ V, bt 32 (co (ro ds g)) = V := ⟨_, rfl⟩
      rw [hV] at hy HLD
      clear hpx hcl hV
      gi_wp2_with (refine wpListIn_load_dig rfl (.tmp 15) rfl (.agg V) HLD.out ?_)
      refine hR.mono ?_
      rintro e W3 (⟨rfl, hJ3, hk3⟩ | ⟨rfl, hJx3⟩)
      · gi_wp2
        go_roundw
        case rel => exact ⟨g, pre ++ [⟨g, hgn⟩], by simp; omega, congrArg (Value.int .i64) (atD_eq g).symm, HX.out, hJ3, hk3.1 HBB.out, hk3.2 HH.out⟩
        case measure => simp [intOf]
      · gi_wp2
        refine bodyPost_ret (results_none rfl _ _ _) rfl ?_
        exact ⟨⟨_, rfl⟩, .inr ⟨_, ⟨_, by simp; omega, HX.out⟩, hJx3⟩⟩
theorem backD_stops (m : Nat) (hm : 1 ≤ m) (Bs n cap : Nat) (A : Option Addr) (ds : List (List Nat)) (hds : ds.length = n) (hn : n ≤ 1099511627776) (w : World)
    (hc : w.cell? ⟨Bs, 0, none⟩ = some (.slice A n cap)) (hh : DRd w A ds) :
    SeqStopsK Fence.wide m Tryd.prog 60 #[.pointer (some ⟨Bs, 0, none⟩)] (pdv ds (n := n)) (KpD Bs (.slice A n cap) A ds) (fun ys => ys.map (fun x => x.1) = dns n n)
      (fun pre => ∃ k, k ≤ n ∧ pre.map (fun x => x.1) = dns n k) n w := fun l J Jx W hW _ _ hY h0 =>
  have hk := KpD.grown (Bs := Bs) (s := .slice A n cap) (A := A) (ds := ds) (row := none) ((Ext.mk hW).grown none) (by simp) (fun _ _ _ _ => by simp)
  backD1 m hm l Bs n cap A ds hds hn J Jx hY W (hk.1 hc) (hk.2 hh) h0
set_option maxHeartbeats 1000000 in
/-- slices.Backward(s): the slice value is boxed; the function value captures the box. -/
theorem backD_in (m : Nat) (a : Option Addr) (len cap : Nat) (w : World) :
    CallsIn Fence.wide m Tryd.prog 52 #[.slice a len cap] w fun e w' => e = .returned (.func (.func 60) #[] #[.pointer (some ⟨w.heap.size, 0, none⟩)]) ∧ w' = w.alloc (.cells #[.slice a len cap] 25) := by
  refine callsIn_of_wp Tryd.func52 rfl trivial ?_ rfl
  simp only [Tryd.ntmps52, List.size_toArray, List.length_cons, List.length_nil, Nat.reduceAdd, Nat.reduceSub, Array.replicate_succ, Array.replicate_zero, List.push_toArray, List.append_toArray, List.nil_append, List.cons_append]
  gi_wp2
  go_ret
  exact ⟨rfl, rfl⟩
end Go.Proofs.YthbfodmpoheahaaDoor

/-
  A region that draws its order, whose first operations leave every world of a class in that class and yield the same values in all of them, and whose last operations follow in a forced order: one walk of the text's order serves every order. Conditions: none; of no program in particular.
-/
namespace Go.Proofs.YthbfodmpoheahaaDoor
open Go

section
variable {P : Program} {ops : Array Oper} {md : Region.Mode} {C : World → Prop}

/-- f operations below n come up in whatever order, each quiet in the class; then L. -/
def ahead (P : Program) (md : Region.Mode) (ops : Array Oper) (C : World → Prop) (n : Nat) (L : Array Bool → Act → Prop) : Nat → Array Bool → Act → Prop
  | 0, listed, a => L listed a
  | f + 1, listed, a => Region.ready md ops listed ≠ [] ∧ ∀ i, i ∈ Region.ready md ops listed → i < n ∧ qOp P ops C i (ahead P md ops C n L f (listed.setIfInBounds i true)) a

theorem wpAny_of_ahead {n g : Nat} {L : Array Bool → Act → Prop} {Q' : Exit → Act → World → Prop} (hL : ∀ listed a w, C w → L listed a → wpAny P md ops Q' g listed a w) (f : Nat) :
    ∀ (listed : Array Bool) (a : Act) (w : World), C w → ahead P md ops C n L f listed a → wpAny P md ops Q' (f + g) listed a w := by
  induction f with
  | zero => intro listed a w hw h; rw [Nat.zero_add]; exact hL _ _ _ hw h
  | succ f ih =>
    intro listed a w hw h
    rw [Nat.succ_add]
    exact ⟨fun h0 => absurd h0 h.1, fun i hi => wpOp_of_qOp hw (fun a' w' hw' h' => ih _ a' w' hw' h') (h.2 i hi).2⟩

/-- What may come up now may be taken first. -/
theorem ahead_first {n i : Nat} {oi : Oper} {v : Value} {L : Array Bool → Act → Prop} (hi : ops[i]? = some oi) (hsel : ∀ (j : Nat) (o : Oper) cs b, ops[j]? = some o → o.op ≠ .select cs b)
    (hs : Region.sinkB md ops n = true) (hc : Region.chainB md ops n = true) (hn : n < ops.size) (hin : i < n)
    (hdone : ∀ listed a, L listed a → ∀ j ∈ Region.ready md ops listed, n ≤ j) (f : Nat) :
    ∀ (listed : Array Bool) (a : Act), HeadInv md ops n listed →
      (∀ j oj, ops[j]? = some oj → j ≠ i → listed.getD j true = false → (∀ e ∈ oj.after, Region.binds md e = true → e.on ≠ i) → oi.apart ops oj = true) →
      i ∈ Region.ready md ops listed → YieldsIn P ops C oi v a →
      ahead P md ops C n L f (listed.setIfInBounds i true) (a.put oi.dst v) → ahead P md ops C n L (f + 1) listed a := by
  induction f with
  | zero =>
    intro listed a inv _ hr hy H
    refine ⟨List.ne_nil_of_mem hr, fun j hj => ?_⟩
    have hjn : j < n := Nat.lt_of_not_le fun h => tail_waits hs hc hn inv _ i rfl hin (mem_ready.1 hr).1 j h hj
    by_cases hji : j = i
    · subst hji; exact ⟨hjn, hy.qOp hi H⟩
    · exact absurd (hdone _ _ H j (ready_mono hj hji)) (by omega)
  | succ f ih =>
    intro listed a inv hfree hr hy H
    have hun := (mem_ready.1 hr).1
    refine ⟨List.ne_nil_of_mem hr, fun j hj => ?_⟩
    have hjn : j < n := Nat.lt_of_not_le fun h => tail_waits hs hc hn inv _ i rfl hin hun j h hj
    by_cases hji : j = i
    · subst hji; exact ⟨hjn, hy.qOp hi H⟩
    obtain ⟨hjun, oj, hoj, hall⟩ := mem_ready.1 hj
    have hap := hfree j oj hoj hji hjun fun e he hb heq => by
      have h1 := hall e he hb
      rw [heq, getD_both hun] at h1
      cases h1
    refine ⟨hjn, qOp_mono (fun a' h3 => ih (listed.setIfInBounds j true) a' (inv.set hj hjn) ?_ (ready_mono hr (Ne.symm hji)) h3.1 ?_)
      (qOp_put hoj hap (fun cs b => hsel i oi cs b hi) (fun cs b => hsel j oj cs b hoj) hy (H.2 j (ready_mono hj hji)).2)⟩
    · intro k ok hk hki hu hno
      refine hfree k ok hk hki ?_ hno
      by_cases hjk : j = k
      · subst hjk; exact hjun
      · rwa [getD_set_ne true hjk] at hu
    · rw [Array.setIfInBounds_comm _ _ hji]; exact h3.2

theorem ahead_lex {n g : Nat} {Lq : Act → Prop} (hsel : Region.noSelect ops = true) (hs : Region.sinkB md ops n = true) (hc : Region.chainB md ops n = true) (hn : n < ops.size) (l : List Oper) :
    ∀ (k : Nat) (listed : Array Bool) (a : Act), (∀ j, j < l.length → l[j]? = ops[k + j]?) → k + l.length = n → HeadInv md ops n listed →
    Region.lexHead md ops g l.length k listed = true → wpQuiet P ops C Lq l a →
    ahead P md ops C n (fun listed' a' => Region.seqB md ops g n listed' = true ∧ Lq a') l.length listed a := by
  induction l with
  | nil =>
    intro k listed a _ hk _ hB h
    obtain rfl : k = n := by simpa using hk
    exact ⟨by simpa [Region.lexHead] using hB, h⟩
  | cons o l ih =>
    intro k listed a hl hk inv hB h
    have h0 : ops[k]? = some o := by simpa using (hl 0 (by simp)).symm
    simp only [List.length_cons, Region.lexHead, Bool.and_eq_true] at hB hk
    have hr : k ∈ Region.ready md ops listed := by simpa using hB.1.1
    obtain ⟨v, hy, hK⟩ := yieldsIn_of_qOp (C := C) (K := wpQuiet P ops C Lq l) h0 (by unfold qOp; simp only [h0]; exact h)
    refine ahead_first h0 (Region.noSelect_spec hsel) hs hc hn (by omega) (fun _ _ hL => seqB_ready hL.1) l.length listed a inv (Region.free_spec h0 hB.1.2) hr hy ?_
    exact ih (k + 1) _ _ (fun j hj => by have := hl (j + 1) (by simp; omega); simpa [Nat.add_assoc, Nat.add_comm 1 j] using this) (by omega) (inv.set hr (by omega)) hB.2 hK

theorem any_quiet_tail {Q : Exit → Act → World → Prop} {a : Act} {w : World} {l : List Oper} (n : Nat) (C : World → Prop) (hB : Region.lexTailB .any l.toArray n = true) (hC : C w.drew)
    (h : wpQuiet P l.toArray C (fun a' => ∀ w', C w' → wpList P l.toArray Q (l.drop n) a' w') (l.take n) a) : wpAny P .any l.toArray Q l.toArray.size (Array.replicate l.toArray.size false) a w.drew := by
  simp only [Region.lexTailB, Bool.and_eq_true, decide_eq_true_eq] at hB
  obtain ⟨⟨⟨⟨hsel, hn⟩, hs⟩, hc⟩, hlex⟩ := hB
  have hn' : n < l.length := by simpa using hn
  have htl : (l.take n).length = n := by rw [List.length_take]; omega
  have hdl : (l.drop n).length = l.toArray.size - n := by simp
  have inv0 : HeadInv .any l.toArray n (Array.replicate l.toArray.size false) :=
    ⟨by simp, fun j oj _ hl => (by rw [getD_replicate_false] at hl; cases hl), fun t _ ht => getD_in (by simpa using ht) (getD_replicate_false _ _)⟩
  have H := ahead_lex (md := .any) (g := l.toArray.size - n) (C := C) hsel hs hc hn (l.take n) 0 _ a (fun j hj => by
    have hj' : j < n := by rwa [htl] at hj
    simp [hj']) (by rw [htl]; exact Nat.zero_add n) inv0 (by rw [htl]; exact hlex) h
  have key := wpAny_of_ahead (C := C) (Q' := Q) (g := l.toArray.size - n) (fun listed a' w' hw' hL => by
    have := wpAny_of_seq (md := .any) (Q' := Q) (l.drop n) n listed a' w' (fun j => by simp [List.getElem?_drop]) (by rw [hdl]; exact hL.1) (hL.2 w' hw')
    rwa [hdl] at this) _ _ _ _ hC H
  rw [htl, show n + (l.toArray.size - n) = l.toArray.size by omega] at key
  exact key
theorem wp_region_quiet_tail {id : Nat} {Q : Exit → Act → World → Prop} {a : Act} {w : World} {l : List Oper} (n : Nat) (C : World → Prop) (hm : P.follows .mixedOrders = true) (hB : Region.lexTailB .any l.toArray n = true) (hC : C w.drew)
    (h : wpQuiet P l.toArray C (fun a' => ∀ w', C w' → wpList P l.toArray Q (l.drop n) a' w') (l.take n) a) : (Code.region id l.toArray true).wp P Q a w :=
  wp_region_any hm (any_quiet_tail n C hB hC h)
end
end Go.Proofs.YthbfodmpoheahaaDoor

/-
  A region that draws its order, in the body of a loop over a function, by the laws for regions outside: of no program in particular. Conditions: no operation of it is a deferral, and what comes behind bears no memory run out.
-/
namespace Go.Proofs.YthbfodmpoheahaaDoor
open Go

section
variable {P : Program} {ops : Array Oper} {md : Region.Mode} {Q : Exit → Act → World → Prop}

def noDefer (ops : Array Oper) : Bool := ops.toList.all fun o => match o.op with
  | .defer _ => false
  | _ => true
theorem noDefer_at (h : noDefer ops = true) {i : Nat} {o : Oper} (ho : ops[i]? = some o) : ∀ c, o.op ≠ .defer c := fun c e => by
  have hm : o ∈ ops.toList := by
    obtain ⟨hi, rfl⟩ := Array.getElem?_eq_some_iff.1 ho
    simp
  have := List.all_eq_true.1 h o hm
  rw [e] at this
  cases this

theorem rowsIn_wide {n : Nat} {row : String} {args : Array Value} {w : World} {R : Value → World → Prop} (h : Rows P row args w R) : RowsIn Fence.wide n P row args w R := fun c cs _ => by
  obtain ⟨v, w', hR, hs⟩ := h c cs
  exact ⟨v, w', hR, stepsIn_wide.2 hs⟩
theorem uponIn_of {o : Oper} {a : Act} {K : Act → World → Prop} {l n : Nat} (r : Result Next) (h : o.upon P a K Q r) : o.uponIn (Fence.wide.inRound l) n P a K Q r := by
  cases r with
  | ok x w' =>
    cases x <;> simp only [Oper.upon, Oper.uponIn] at h ⊢
    all_goals first
      | exact h
      | exact ⟨(fun hd => by cases hd), CallsIn.inRound l (callsIn_wide.2 h)⟩
      | exact ⟨(fun hd => by cases hd), rowsIn_wide h⟩
  | halt x w' => cases x <;> simp only [Oper.upon, Oper.uponIn] at h ⊢ <;> exact h
theorem anyIn_of_any (hd : noDefer ops = true) (hQ : ¬ LetsOut Q) {l n : Nat} : ∀ (fuel : Nat) (listed : Array Bool) (a : Act) (w : World), wpAny P md ops Q fuel listed a w → wpAnyIn (Fence.wide.inRound l) n P md ops Q fuel listed a w
  | 0, _, _, _, h => h
  | fuel + 1, listed, a, w, h => by
    refine ⟨h.1, fun i hi => ?_⟩
    have hh := h.2 i hi
    unfold wpOp at hh
    unfold wpOpIn
    cases ho : ops[i]? with
    | none => rw [ho] at hh; exact anyIn_of_any hd hQ fuel _ a w hh
    | some o =>
      rw [ho] at hh
      simp only at hh ⊢
      by_cases hw : Region.wanted o (yielded ops a.tmps) = true
      · rw [if_pos hw] at hh ⊢
        rcases hh with hh | hh
        · refine ⟨fun _ _ => trivial, ?_⟩
          rw [show (Fence.wide.inRound l).round = some l from rfl, Oper.semAt_some l _ o (noDefer_at hd ho)]
          exact uponIn_of _ (Oper.wp_mono (fun a w => anyIn_of_any hd hQ fuel _ a w) hh)
        · exact absurd hh.2 hQ
      · rw [if_neg hw] at hh ⊢
        exact ⟨fun _ _ => trivial, anyIn_of_any hd hQ fuel _ _ w hh⟩

/-- Head quiet in a class, tail forced; in a round. -/
theorem wpIn_region_quiet_tail {id lq k : Nat} {a : Act} {w : World} {l : List Oper} (n : Nat) (C : World → Prop) (hm : P.follows .mixedOrders = true) (hB : Region.lexTailB .any l.toArray n = true) (hd : noDefer l.toArray = true) (hQ : ¬ LetsOut Q) (hC : C w.drew)
    (h : wpQuiet P l.toArray C (fun a' => ∀ w', C w' → wpList P l.toArray Q (l.drop n) a' w') (l.take n) a) : (Code.region id l.toArray true).wpIn (Fence.wide.inRound lq) k P Q a w :=
  wpIn_region_any hm (anyIn_of_any hd hQ _ _ _ _ (any_quiet_tail n C hB hC h))
end
end Go.Proofs.YthbfodmpoheahaaDoor

/-
  A region in its order, in the body of a loop over a function, by the laws for regions outside: of no program in particular. Conditions: no operation of it is a deferral, and what comes behind bears no memory run out.
-/
namespace Go.Proofs.YthbfodmpoheahaaDoor
open Go

section
variable {P : Program} {ops : Array Oper} {Q : Exit → Act → World → Prop}
theorem listIn_of_list (hQ : ¬ LetsOut Q) {l n : Nat} : ∀ (rest : List Oper) (_ : ∀ o ∈ rest, ∀ c, o.op ≠ .defer c) (a : Act) (w : World), wpList P ops Q rest a w → wpListIn (Fence.wide.inRound l) n P ops Q rest a w
  | [], _, _, _, h => h
  | o :: rest, hd, a, w, h => by
    unfold wpList at h
    unfold wpListIn
    by_cases hw : Region.wanted o (yielded ops a.tmps) = true
    · rw [if_pos hw] at h ⊢
      rcases h with h | h
      · refine ⟨fun _ _ => trivial, ?_⟩
        rw [show (Fence.wide.inRound l).round = some l from rfl, Oper.semAt_some l _ o (hd o (by simp))]
        exact uponIn_of _ (Oper.wp_mono (fun a w => listIn_of_list hQ rest (fun o ho => hd o (by simp [ho])) a w) h)
      · exact absurd h.2 hQ
    · rw [if_neg hw] at h ⊢
      exact ⟨fun _ _ => trivial, listIn_of_list hQ rest (fun o ho => hd o (by simp [ho])) _ w h⟩
theorem wpIn_region_round {id lq k : Nat} {a : Act} {w : World} {l : List Oper} (hd : noDefer l.toArray = true) (hQ : ¬ LetsOut Q) (h : wpList P l.toArray Q l a w) : (Code.region id l.toArray false).wpIn (Fence.wide.inRound lq) k P Q a w :=
  wpIn_region_lit (listIn_of_list hQ l (fun o ho c e => by
    have h2 := List.all_eq_true.1 hd o (by simpa using ho)
    rw [e] at h2
    cases h2) a w h)
end
end Go.Proofs.YthbfodmpoheahaaDoor

/-
  What bytes.Clone does. Conditions: no more than 2^16 bytes.
-/
namespace Go.Proofs.YthbfodmpoheahaaDoor
open Go.RowKit
open Pol (co Sm)

/-- Bytes of a call's own that read as these. -/
def CloneS (t : List Nat) (w : World) (e : Ending) (w' : World) : Prop := Ext w w' ∧ ∃ v, e = .returned v ∧ Mine w' w.heap.size v t
set_option maxHeartbeats 800000 in
set_option maxRecDepth 100000 in
theorem cr_clone (t : List Nat) (A : Option Addr) (c : Nat) (w : World) (hr : Rd w A t) (hl : t.length ≤ 65536) : Calls Tryd.prog 55 #[.slice A t.length c] w (CloneS t w) := by
  unfold CloneS
  have HR := Lib.hid hr
  obtain ⟨n, hn⟩ : ∃ n, t.length = n := ⟨_, rfl⟩
  have HN := Lib.hid hn
  rw [hn] at hl ⊢
  have qn : ∀ (W : World) (B : Option Addr) (n c : Nat), (binOp .eql 35 (.slice B n c) (.slice none 0 0)).run Tryd.prog W = .ok (.bool B.isNone) W := fun W B n c => Lib.run_eql_slice_nil W _ _ B n c 0 0 Tryd.underlying35
  cases A with
  | none =>
    have ht : t = [] := by
      rcases Nat.eq_zero_or_pos t.length with h | h
      · exact List.eq_nil_of_length_eq_zero h
      · obtain ⟨_, _, e, _⟩ := hr.2 0 h; cases e
    have HT := Lib.hid ht
    clear hr hn ht
    go_enter Tryd.func55, Tryd.ntmps55
    go_wp2
    skip
    go_ret
    exact ⟨Ext.refl _, _, rfl, by rw [HT.out]; exact Mine.nil _ _⟩
  | some a =>
    have hx := (Ext.refl w).alloc (.cells #[] 5)
    have HX := Lib.hid hx
    have HM := Lib.hid (mine_empty w)
    clear hr hn hx
    go_enter Tryd.func55, Tryd.ntmps55
    go_wp2_with (at_builtin; refine wpList_append_rd rfl (.tmp 5) (.tmp 6) rfl w.heap.size (.slice (some ⟨w.heap.size, 0, none⟩) 0 0) [] t rfl HM.out (some a) n c rfl HN.out (HR.out.ext HX.out) (by rw [HN.out]; simp; omega) HX.out.size ?_; intro v' w3 hown' hg' hat'; rw [List.nil_append] at hown'; have HM2 := Lib.hid hown'; have HX2 := Lib.hid (HX.out.more hg' (fun k e => (HM.out.block k e).1)); clear hown' hg' hat')
    go_ret
    exact ⟨HX2.out, _, rfl, HM2.out⟩
end Go.Proofs.YthbfodmpoheahaaDoor

/-
  What slices.Concat of slices of bytes does. Conditions: no more than 16 of them, together no more than 2^17 bytes.
-/
namespace Go.Proofs.YthbfodmpoheahaaDoor
open Go.RowKit
open Pol (co Sm)

set_option maxHeartbeats 800000 in
set_option maxRecDepth 100000 in
theorem cat_grow (n : Nat) (w : World) (hn : n ≤ 1048576) :
    Calls Tryd.prog 56 #[.slice none 0 0, .int .i64 (n : Int)] w (CloneS [] w) := by
  unfold CloneS
  have d1 : decide ((n : Int) < 0) = false := decide_eq_false (by omega)
  have n1 : ¬ (n : Int) < 0 := by omega
  have e1 : wrap64 (n : Int) = (n : Int) := by unfold wrap64; omega
  by_cases h0 : n = 0
  · subst h0
    clear d1 n1 e1
    go_enter Tryd.func56, Tryd.ntmps56
    go_wp2
    go_ret
    exact ⟨Ext.refl _, _, rfl, Mine.nil _ _⟩
  · have d2 : decide ((n : Int) > 0) = true := decide_eq_true (by omega)
    have n2 : (n : Int) > 0 := by omega
    obtain ⟨i0, hi, hz0, hz1, hz2⟩ := info_parts u8_info
    have hrun := fun (W : World) (ty : TypeId) => Lib.run_append_nil_zeros (P := Tryd.prog) W 35 3 ty 5 i0 (.int .u8 0) .i64 .i64 Tryd.underlying35 Tryd.underlying3 hi hz0 n (by omega) (by omega) (by omega) (by rw [hz2]; omega)
    have HG := Lib.hid (fun (W : World) => show n ≤ grownCap W n 0 5 ∧ grownCap W n 0 5 ≤ maxLen from ⟨grownCap_ge W _ _ _, grownCap_le_maxLen W _ _ _ (by unfold maxLen; omega)⟩)
    have HM := Lib.hid (fun (W : World) => show Mine (W.drew.alloc (.cells (Builtin.zeroCells (Value.int .u8 0).cells n ++ Builtin.zeroCells (Value.int .u8 0).cells (grownCap W n 0 5 - n)) 5)) W.heap.size (.slice (some ⟨W.heap.size, 0, none⟩) 0 (grownCap W n 0 5)) [] from
      World.ownsRow_made W.drew _ _ (Nat.le_refl _) (HG.out W).2 (by
        have h := (HG.out W).1
        rw [Array.size_append, size_zeroCells, size_zeroCells, show (Value.int .u8 0).cells.size = 1 from rfl, Nat.mul_one, Nat.mul_one, Nat.mul_one]
        omega))
    have HX := Lib.hid (fun (W : World) (o : Obj) => show Ext W (W.drew.alloc o) from ((Ext.refl W).drew).alloc o)
    obtain ⟨G, hG⟩ : ∃ G, grownCap w n 0 5 = G := ⟨_, rfl⟩
    have hM := HM.out w
    have hg := HG.out w
    have hr := hrun w 35
    have hX := HX.out w
    rw [hG] at hM hg hr
    generalize (Builtin.zeroCells (Value.int .u8 0).cells n ++ Builtin.zeroCells (Value.int .u8 0).cells (G - n)) = Z at hM hr
    have HM2 := Lib.hid hM
    have HX2 := Lib.hid hX
    have HR2 := Lib.hid hr
    have hg1 := hg.1
    have hg2 : ¬ (G : Int) < 0 := by omega
    have hg3 : (G : Int) ≤ 9223372036854775807 := by have := hg.2; unfold maxLen at this; omega
    clear hM hX hr hg hG hrun HM HX HG hi hz0 hz1 hz2
    go_enter Tryd.func56, Tryd.ntmps56
    go_wp2_with (at_builtin; refine Lib.wpList_append_run w rfl (.tmp 20) (.tmp 21) 35 3 rfl (.slice none 0 0) (.int .i64 n) rfl rfl _ _ HR2.out ?_)
    go_ret
    exact ⟨HX2.out _, _, rfl, HM2.out⟩
theorem flat_more (rows : List (List Nat)) (i : Nat) (h : i < rows.length) : (rows.take (i + 1)).flatten = (rows.take i).flatten ++ ro rows i := by
  rw [List.take_succ_eq_append_getElem h, List.flatten_append, List.flatten_singleton]
  unfold ro
  rw [List.getElem?_eq_getElem h]
  rfl
theorem flat_take_le : ∀ (rows : List (List Nat)) (i : Nat), (rows.take i).flatten.length ≤ rows.flatten.length
  | [], i => by simp
  | r :: rows, 0 => by simp
  | r :: rows, i + 1 => by
    rw [List.take_succ_cons, List.flatten_cons, List.flatten_cons, List.length_append, List.length_append]
    have := flat_take_le rows i
    omega
theorem rows_flat_sm : ∀ rows : List (List Nat), (∀ r ∈ rows, Sm r) → Sm rows.flatten
  | [], _ => Sm.nil
  | r :: rows, h => by
    rw [List.flatten_cons]
    exact sm_app (h r (by simp)) (rows_flat_sm rows (fun x hx => h x (by simp [hx])))
set_option maxHeartbeats 1600000 in
set_option maxRecDepth 100000 in
theorem mk_cat (rows : List (List Nat)) (A : Option Addr) (ca : Nat) (w : World) (hr : RRd w A rows) (hl : rows.length ≤ 16) (hls : rows.flatten.length ≤ 131072) :
    Calls Tryd.prog 42 #[.slice A rows.length ca] w (CloneS rows.flatten w) := by
  have HR := Lib.hid hr
  have HGR := Lib.hid (fun n W (h : n ≤ 1048576) => cat_grow n W h)
  have HTK := Lib.hid (fun i (hi : i < rows.length) => flat_more rows i hi)
  have HLE := Lib.hid (fun i => Nat.le_trans (flat_take_le rows i) hls)
  have HSM := Lib.hid (fun i => rows_flat_sm (rows.take i) (fun r h => hr.sm r (List.mem_of_mem_take h)))
  unfold CloneS at HGR ⊢
  obtain ⟨n, hn⟩ : ∃ n, rows.length = n := ⟨_, rfl⟩
  have HN := Lib.hid hn
  have HALL := Lib.hid (show rows.take n = rows from by rw [← hn, List.take_length])
  have HZ := Lib.hid (show (rows.take 0).flatten = [] from by simp)
  rw [hn] at hl HTK ⊢
  clear hr hn hls
  go_enter Tryd.func42, Tryd.ntmps42
  go_wp2
  go_loopg [3, 11] n (fun g s3 s11 wx => ∃ i q : Nat, i + g = n ∧ s11 = .int .i64 (i : Int) ∧ s3 = .int .i64 (((rows.take i).flatten.length : Nat) : Int) ∧ wx = w.drewN q)
  case atStart => exact ⟨0, 0, by omega, rfl, by rw [HZ.out]; rfl, rfl⟩
  case round =>
    obtain ⟨i, q, hig, rfl, rfl, rfl⟩ := hrel
    cases gk with
    | zero =>
      obtain rfl : i = n := by omega
      have hle := HLE.out i
      rw [HALL.out] at hle ⊢
      obtain ⟨T, hT⟩ : ∃ T, rows.flatten.length = T := ⟨_, rfl⟩
      have HTL := Lib.hid hT
      rw [hT] at hle ⊢
      have HX0 := Lib.hid ((Ext.refl w).drewN q)
      have HR0 := Lib.hid (HR.out.ext HX0.out)
      have HG := Lib.hid (HGR.out T (w.drewN q) (by omega))
      generalize hwq : w.drewN q = wq at HX0 HR0 HG ⊢
      have HS0 := Lib.hid HX0.out.size
      clear hT hig hwq
      go_wp2_with fail
      refine HG.out.mono ?_
      rintro e w1 ⟨hx1, v1, rfl, hm1⟩
      have HX1 := Lib.hid (HX0.out.trans hx1)
      have HM1 := Lib.hid (hm1.down (base' := w.heap.size) HX0.out.size)
      clear hx1 hm1
      go_wp2
      go_loopg [6, 27] i (fun g s6 s27 wx => ∃ j : Nat, j + g = i ∧ s27 = .int .i64 (j : Int) ∧ Mine wx w.heap.size s6 (rows.take j).flatten ∧ Ext w wx)
      case atStart => exact ⟨0, by omega, rfl, by rw [HZ.out]; exact HM1.out, HX1.out⟩
      case round =>
        obtain ⟨j, hjg, rfl, hm, hx⟩ := hrel
        have HM := Lib.hid hm
        have HX := Lib.hid hx
        have HS := Lib.hid (HSM.out j)
        obtain ⟨B6, c6, rfl, hc6, _⟩ := hm.slice HS.out
        cases gk with
        | zero =>
          obtain rfl : j = i := by omega
          rw [HALL.out] at HM ⊢
          clear hm hx hjg
          go_wp2
          go_ret
          exact ⟨HX.out, _, rfl, HM.out⟩
        | succ g =>
          have hj : j < i := by omega
          have hjI : (j : Int) < (i : Int) := by omega
          obtain ⟨b1, o1, R1, c1, rfl, hc1, hl1, hr1⟩ := (HR.out.ext hx) j (by rw [HN.out]; exact hj)
          have HRJ := Lib.hid hr1
          have HTKJ := Lib.hid (HTK.out j hj)
          have HB := Lib.hid (show (rows.take j).flatten.length + (ro rows j).length ≤ 131072 from by
            have := HLE.out (j + 1)
            rw [HTKJ.out, List.length_append] at this
            exact this)
          obtain ⟨t, ht⟩ : ∃ t, ro rows j = t := ⟨_, rfl⟩
          rw [ht] at hc1 hl1 HTKJ HRJ HB
          obtain ⟨nt, hnt⟩ : ∃ nt, t.length = nt := ⟨_, rfl⟩
          have HNT := Lib.hid hnt
          rw [hnt] at hc1 hl1
          obtain ⟨J, hJ⟩ : ∃ J, (rows.take j).flatten.length = J := ⟨_, rfl⟩
          have HJ := Lib.hid hJ
          rw [hJ] at hc6 HM ⊢
          have HS2 := Lib.hid hx.size
          have HIG := Lib.hid hjg
          clear hm hx hr1 ht hnt hJ hjg
          go_wp2_with (at_builtin; refine wpList_append_rd rfl (.tmp 31) (.tmp 32) rfl w.heap.size (.slice B6 J c6) (rows.take j).flatten t rfl HM.out R1 nt c1 rfl HNT.out HRJ.out (by have := HB.out; omega) HS2.out ?_; intro v7 w7 hown7 hg7 hat7; rw [← HTKJ.out] at hown7; have HX7 := Lib.hid (HX.out.more hg7 (fun q hq => (HM.out.block q hq).1)); have HM7 := Lib.hid hown7; clear hown7 hg7 hat7)
          go_roundg g
          case measure => omega
          case rel => exact ⟨j + 1, by have := HIG.out; omega, by go_num, HM7.out, HX7.out⟩
    | succ g =>
      have hi : i < n := by omega
      have hiI : (i : Int) < (n : Int) := by omega
      obtain ⟨b1, o1, R1, c1, rfl, hc1, hl1, hr1⟩ := (HR.out.ext ((Ext.refl w).drewN q)) i (by rw [HN.out]; exact hi)
      have hle := HLE.out (i + 1)
      have HTKI := Lib.hid (HTK.out i hi)
      have HSU := Lib.hid (show (rows.take (i + 1)).flatten.length = (rows.take i).flatten.length + (ro rows i).length from by rw [HTKI.out, List.length_append])
      rw [HSU.out] at hle
      obtain ⟨t, ht⟩ : ∃ t, (ro rows i).length = t := ⟨_, rfl⟩
      rw [ht] at hc1 hl1 hle HSU
      obtain ⟨s, hs⟩ : ∃ s, (rows.take i).flatten.length = s := ⟨_, rfl⟩
      rw [hs] at hle HSU ⊢
      have e1 : wrap64 ((s : Int) + (t : Int)) = ((s + t : Nat) : Int) := by unfold wrap64; omega
      have d1 : decide (((s + t : Nat) : Int) < 0) = false := decide_eq_false (by omega)
      have n1 : ¬ ((s + t : Nat) : Int) < 0 := by omega
      have d2 : decide ((s : Int) + (t : Int) < 0) = false := decide_eq_false (by omega)
      have n2 : ¬ (s : Int) + (t : Int) < 0 := by omega
      have e2 : wrap64 ((s : Int) + (t : Int)) = (s : Int) + (t : Int) := by unfold wrap64; omega
      have HIG := Lib.hid hig
      clear e1 d1 n1 hr1 ht hs hig
      go_wp2
      go_roundg g
      case measure => omega
      case rel => exact ⟨i + 1, q, by have := HIG.out; omega, by go_num, by rw [HSU.out]; go_num, rfl⟩
end Go.Proofs.YthbfodmpoheahaaDoor

/-
  Literals of rows, and rows that lie in newer blocks than another one. Conditions: none.
-/
namespace Go.Proofs.YthbfodmpoheahaaDoor
open Go.RowKit
open Pol (co Sm)

theorem rrd_lit (w : World) (vs : List Value) (rows : List (List Nat)) (h : RowsV w vs rows) : RRd (w.alloc (.cells vs.toArray 35)) (some ⟨w.heap.size, 0, none⟩) rows := fun i hi => by
  obtain ⟨B, c, hv, hl, hr⟩ := h.2 i hi
  refine ⟨w.heap.size, 0, B, c, rfl, ?_, hl, hr.ext ((Ext.refl _).alloc _)⟩
  rw [cell_of_row _ _ _ _ _ _ (heap_alloc_new w _), Nat.zero_add]
  simpa using hv
theorem rowsV_one {w : World} {v : Value} {l : List Nat} (h : Sl w v l) : RowsV w [v] [l] := ⟨rfl, fun i hi => by
  match i, hi with
  | 0, _ =>
    obtain ⟨B, c, rfl, hc, hr⟩ := h
    exact ⟨B, c, rfl, hc, hr⟩⟩
theorem take_ro (rows : List (List Nat)) (k : Nat) (h : k < rows.length) : rows.take (k + 1) = rows.take k ++ [ro rows k] := by
  rw [List.take_succ_eq_append_getElem h]
  unfold ro
  rw [List.getElem?_eq_getElem h]
  rfl
/-- A literal of one row, whose bytes lie in a block that is new: it lies in no elder block. -/
theorem far_one {w : World} {v : Value} {l : List Nat} {base : Nat} (hm : Mine w base v l) (row : Option Nat) (hrow : ∀ k, row = some k → k < base) (g : Nat) (hg : g = w.heap.size) :
    ∀ i, i < [l].length → ∀ b o n c, (∃ b' o', (some ⟨g, 0, none⟩ : Option Addr) = some ⟨b', o', none⟩ ∧ (w.alloc (.cells #[v] 35)).cell? ⟨b', o' + i, none⟩ = some (.slice (some ⟨b, o, none⟩) n c)) → 0 < n → some b ≠ row := by
  rintro i hi b o n c ⟨b', o', e, hc⟩ hn e'
  subst hg
  injection e with e
  injection e with e1 e2
  subst e1; subst e2
  have hi0 : i = 0 := by simpa using hi
  subst hi0
  rw [cell_of_row _ _ _ _ _ _ (heap_alloc_new w _)] at hc
  have hv : v = .slice (some ⟨b, o, none⟩) n c := by simpa using hc
  have hb := World.ownsRow.lt hm b (by rw [hv]; rfl)
  have := hrow b e'.symm
  omega
end Go.Proofs.YthbfodmpoheahaaDoor

/-
  Trees of digests as plain lists, over a letter for the digest: root, proof, what a proof lifts to, peaks; what is digested on the way; two lists of one root are one, or two things have one digest. Conditions: a digest has thirty-two bytes. No function is named here.
-/
namespace Go.Proofs.YthbfodmpoheahaaDoor
open Pol (co Sm)

/-- The greatest power of two below n. -/
def spl (n : Nat) : Nat := 2 ^ Nat.log2 (n - 1)
theorem spl_pos (n : Nat) : 0 < spl n := Nat.two_pow_pos _
theorem spl_lt {n : Nat} (h : 2 ≤ n) : spl n < n := by
  have := Nat.log2_self_le (n := n - 1) (by omega)
  unfold spl
  omega
theorem spl_two {n : Nat} (h : 2 ≤ n) : n ≤ 2 * spl n := by
  have := Nat.lt_log2_self (n := n - 1)
  unfold spl
  rw [Nat.pow_succ] at this
  omega
section
variable (D : List Nat → List Nat)
/-- A leaf's digest; two trees'. -/
def lf (t : List Nat) : List Nat := D (0 :: t)
def nd (a b : List Nat) : List Nat := D (1 :: (a ++ b))
/-- The root. -/
def mroot (l : List (List Nat)) : List Nat :=
  if _h : l.length < 2 then (match l with | [] => D [] | t :: _ => lf D t) else nd D (mroot (l.take (spl l.length))) (mroot (l.drop (spl l.length)))
termination_by l.length
decreasing_by
  · rw [List.length_take]; have := spl_lt (n := l.length) (by omega); omega
  · rw [List.length_drop]; have := spl_pos l.length; omega
theorem mroot_nil : mroot D [] = D [] := by rw [mroot]; rfl
theorem mroot_one (t : List Nat) : mroot D [t] = lf D t := by rw [mroot]; rfl
theorem mroot_more {l : List (List Nat)} (h : 2 ≤ l.length) : mroot D l = nd D (mroot D (l.take (spl l.length))) (mroot D (l.drop (spl l.length))) := by rw [mroot, dif_neg (by omega)]
/-- The proof of a place that is there. -/
def mprf (l : List (List Nat)) (i : Nat) : List (List Nat) :=
  if _h : l.length < 2 then [] else
    if i < spl l.length then mprf (l.take (spl l.length)) i ++ [mroot D (l.drop (spl l.length))] else mprf (l.drop (spl l.length)) (i - spl l.length) ++ [mroot D (l.take (spl l.length))]
termination_by l.length
decreasing_by
  · rw [List.length_take]; have := spl_lt (n := l.length) (by omega); omega
  · rw [List.length_drop]; have := spl_pos l.length; omega
/-- How long a proof must be. -/
def dep (n i : Nat) : Nat := if _h : n < 2 then 0 else if i < spl n then dep (spl n) i + 1 else dep (n - spl n) (i - spl n) + 1
termination_by n
decreasing_by
  · exact spl_lt (by omega)
  · have := spl_pos n; omega
/-- A leaf put together with a proof, from the back. -/
def mlift (d : List Nat) (n i : Nat) (p : List (List Nat)) : Option (List Nat) :=
  if _h : n < 2 then (if p = [] then some d else none) else
    match p.getLast? with
    | none => none
    | some x => if i < spl n then (mlift d (spl n) i p.dropLast).map (fun y => nd D y x) else (mlift d (n - spl n) (i - spl n) p.dropLast).map (fun y => nd D x y)
termination_by n
decreasing_by
  · exact spl_lt (by omega)
  · have := spl_pos n; omega
theorem mprf_len : ∀ (m : Nat) (l : List (List Nat)) (i : Nat), l.length ≤ m → (mprf D l i).length = dep l.length i
  | m, l, i, hm => by
    rw [mprf, dep]
    by_cases h : l.length < 2
    · rw [dif_pos h, dif_pos h]; rfl
    · rw [dif_neg h, dif_neg h]
      have h1 := spl_lt (n := l.length) (by omega)
      have h2 := spl_pos l.length
      cases m with
      | zero => omega
      | succ m =>
        by_cases hi : i < spl l.length
        · rw [if_pos hi, if_pos hi, List.length_append, mprf_len m _ _ (by rw [List.length_take]; omega), List.length_take, Nat.min_eq_left (by omega)]
          rfl
        · rw [if_neg hi, if_neg hi, List.length_append, mprf_len m _ _ (by rw [List.length_drop]; omega), List.length_drop]
          rfl
theorem mlift_len : ∀ (m : Nat) (d : List Nat) (n i : Nat) (p : List (List Nat)), n ≤ m → ((mlift D d n i p).isSome = true ↔ p.length = dep n i)
  | m, d, n, i, p, hm => by
    rw [mlift, dep]
    by_cases h : n < 2
    · rw [dif_pos h, dif_pos h]
      by_cases hp : p = []
      · subst hp; simp
      · rw [if_neg hp]
        have : p.length ≠ 0 := fun e => hp (List.eq_nil_of_length_eq_zero e)
        simp [this]
    · rw [dif_neg h, dif_neg h]
      have h1 := spl_lt (n := n) (by omega)
      have h2 := spl_pos n
      cases m with
      | zero => omega
      | succ m =>
        rcases List.eq_nil_or_concat p with rfl | ⟨q, x, rfl⟩
        · by_cases hi : i < spl n
          · rw [if_pos hi]; simp
          · rw [if_neg hi]; simp
        · by_cases hi : i < spl n
          · have ih := mlift_len m d (spl n) i q (by omega)
            simp only [List.concat_eq_append, List.getLast?_concat, List.dropLast_concat, if_pos hi, Option.isSome_map, List.length_append, List.length_singleton]
            rw [ih]
            omega
          · have ih := mlift_len m d (n - spl n) (i - spl n) q (by omega)
            simp only [List.concat_eq_append, List.getLast?_concat, List.dropLast_concat, if_neg hi, Option.isSome_map, List.length_append, List.length_singleton]
            rw [ih]
            omega
/-- What is proved is shown. -/
theorem mlift_prf : ∀ (m : Nat) (l : List (List Nat)) (i : Nat) (t : List Nat), l.length ≤ m → l[i]? = some t → mlift D (lf D t) l.length i (mprf D l i) = some (mroot D l)
  | m, l, i, t, hm, ht => by
    have hi := (List.getElem?_eq_some_iff.1 ht).1
    rw [mlift, mprf]
    by_cases h : l.length < 2
    · rw [dif_pos h, dif_pos h, if_pos rfl]
      match l, h, ht with
      | [s], _, ht =>
        have : i = 0 := by simpa using hi
        subst this
        injection ht with ht
        subst ht
        rw [mroot_one]
    · rw [dif_neg h, dif_neg h]
      have h1 := spl_lt (n := l.length) (by omega)
      have h2 := spl_pos l.length
      cases m with
      | zero => omega
      | succ m =>
        rw [mroot_more D (l := l) (by omega)]
        by_cases hk : i < spl l.length
        · have hl : (l.take (spl l.length)).length = spl l.length := by rw [List.length_take]; omega
          have ih := mlift_prf m (l.take (spl l.length)) i t (by omega) (by rw [List.getElem?_take, if_pos hk]; exact ht)
          rw [hl] at ih
          simp only [if_pos hk, List.getLast?_concat, List.dropLast_concat, ih, Option.map_some]
        · have hl : (l.drop (spl l.length)).length = l.length - spl l.length := by rw [List.length_drop]
          have ih := mlift_prf m (l.drop (spl l.length)) (i - spl l.length) t (by omega) (by rw [List.getElem?_drop, show spl l.length + (i - spl l.length) = i from by omega]; exact ht)
          rw [hl] at ih
          simp only [if_neg hk, List.getLast?_concat, List.dropLast_concat, ih, Option.map_some]
end
end Go.Proofs.YthbfodmpoheahaaDoor

/-
  Peaks of a list; how they grow, and the root that they have. Conditions: none. No function is named here.
-/
namespace Go.Proofs.YthbfodmpoheahaaDoor
open Pol (co Sm)

theorem log2_pow (e : Nat) : Nat.log2 (2 ^ e) = e := Nat.log2_two_pow
/-- Between two powers of two. -/
theorem log2_mid {e n : Nat} (h1 : 2 ^ e ≤ n) (h2 : n < 2 ^ (e + 1)) : Nat.log2 n = e := by
  have hn : n ≠ 0 := by have := Nat.two_pow_pos e; omega
  have a := (Nat.le_log2 hn).2 h1
  have b := (Nat.log2_lt hn).2 h2
  omega
theorem spl_mid {e n : Nat} (h1 : 2 ^ e < n) (h2 : n ≤ 2 ^ (e + 1)) : spl n = 2 ^ e := by
  unfold spl
  rw [log2_mid (e := e) (by omega) (by omega)]
theorem exp_of {n : Nat} (h : 0 < n) : ∃ e, 2 ^ e ≤ n ∧ n < 2 ^ (e + 1) := ⟨Nat.log2 n, Nat.log2_self_le (by omega), Nat.lt_log2_self⟩
/-- How many ones a number has. -/
def pop : Nat → Nat
  | 0 => 0
  | n + 1 => (n + 1) % 2 + pop ((n + 1) / 2)
decreasing_by omega
theorem pop_zero : pop 0 = 0 := by rw [pop]
theorem pop_more {n : Nat} (h : 0 < n) : pop n = n % 2 + pop (n / 2) := by
  match n, h with
  | n + 1, _ => rw [pop]
theorem pop_top : ∀ (e r : Nat), r < 2 ^ e → pop (2 ^ e + r) = pop r + 1
  | 0, r, h => by
    have : r = 0 := by simpa using h
    subst this
    rw [pop_more (by simp)]
    simp [pop_zero]
  | e + 1, r, h => by
    have h2 : 2 ^ (e + 1) = 2 * 2 ^ e := by rw [Nat.pow_succ, Nat.mul_comm]
    have h0 := Nat.two_pow_pos e
    rw [pop_more (by omega), show (2 ^ (e + 1) + r) / 2 = 2 ^ e + r / 2 from by omega, show (2 ^ (e + 1) + r) % 2 = r % 2 from by omega, pop_top e (r / 2) (by omega)]
    by_cases hr : r = 0
    · subst hr; simp [pop_zero]
    · rw [pop_more (n := r) (by omega)]
      omega
section
variable (D : List Nat → List Nat)
/-- The peaks. -/
def mpks (l : List (List Nat)) : List (List Nat) :=
  if h : l = [] then [] else mroot D (l.take (spl (l.length + 1))) :: mpks (l.drop (spl (l.length + 1)))
termination_by l.length
decreasing_by rw [List.length_drop]; have := spl_pos (l.length + 1); have := List.length_pos_iff.2 h; omega
theorem mpks_nil : mpks D [] = [] := by rw [mpks]; rfl
theorem mpks_more {l : List (List Nat)} {e : Nat} (h1 : 2 ^ e ≤ l.length) (h2 : l.length < 2 ^ (e + 1)) : mpks D l = mroot D (l.take (2 ^ e)) :: mpks D (l.drop (2 ^ e)) := by
  have hne : l ≠ [] := fun h => by subst h; have := Nat.two_pow_pos e; rw [List.length_nil] at h1; omega
  rw [mpks, dif_neg hne, spl_mid (e := e) (by omega) (by omega)]
theorem mpks_len : ∀ (m : Nat) (l : List (List Nat)), l.length ≤ m → (mpks D l).length = pop l.length
  | m, l, hm => by
    by_cases hl : l.length = 0
    · have := List.eq_nil_of_length_eq_zero hl
      subst this
      rw [mpks_nil, List.length_nil, pop_zero]
    · obtain ⟨e, h1, h2⟩ := exp_of (n := l.length) (by omega)
      have h0 := Nat.two_pow_pos e
      cases m with
      | zero => omega
      | succ m =>
        rw [mpks_more D h1 h2, List.length_cons, mpks_len m _ (by rw [List.length_drop]; omega), List.length_drop]
        have h3 : 2 ^ (e + 1) = 2 * 2 ^ e := by rw [Nat.pow_succ, Nat.mul_comm]
        have := pop_top e (l.length - 2 ^ e) (by omega)
        rw [show 2 ^ e + (l.length - 2 ^ e) = l.length from by omega] at this
        omega
/-- One more: as long as the number is odd the last peak is put together with what is new. -/
def mgrow (ps : List (List Nat)) (n : Nat) (d : List Nat) : List (List Nat) :=
  if _h : n % 2 = 1 then (match ps.getLast? with | none => [d] | some z => mgrow ps.dropLast (n / 2) (nd D z d)) else ps ++ [d]
termination_by n
theorem mgrow_even {ps : List (List Nat)} {n : Nat} {d : List Nat} (h : n % 2 = 0) : mgrow D ps n d = ps ++ [d] := by rw [mgrow, dif_neg (by omega)]
theorem mgrow_odd {ps : List (List Nat)} {z : List Nat} {n : Nat} {d : List Nat} (h : n % 2 = 1) : mgrow D (ps ++ [z]) n d = mgrow D ps (n / 2) (nd D z d) := by
  rw [mgrow, dif_pos h]
  simp only [List.getLast?_concat, List.dropLast_concat]
theorem mgrow_top : ∀ (e r : Nat) (p : List Nat) (ps : List (List Nat)) (d : List Nat), r < 2 ^ e → ps.length = pop r →
    (r + 1 < 2 ^ e → mgrow D (p :: ps) (2 ^ e + r) d = p :: mgrow D ps r d) ∧ (r + 1 = 2 ^ e → ∃ x, mgrow D ps r d = [x] ∧ mgrow D (p :: ps) (2 ^ e + r) d = [nd D p x])
  | 0, r, p, ps, d, h, hp => by
    have : r = 0 := by simpa using h
    subst this
    rw [pop_zero] at hp
    have := List.eq_nil_of_length_eq_zero hp
    subst this
    refine ⟨fun h => by simp at h, fun _ => ⟨d, by rw [mgrow_even D (by rfl)]; rfl, ?_⟩⟩
    have := mgrow_odd D (ps := []) (z := p) (n := 1) (d := d) rfl
    rw [List.nil_append] at this
    rw [show 2 ^ 0 + 0 = 1 from rfl, this, mgrow_even D (by rfl)]
    rfl
  | e + 1, r, p, ps, d, h, hp => by
    have h2 : 2 ^ (e + 1) = 2 * 2 ^ e := by rw [Nat.pow_succ, Nat.mul_comm]
    have h0 := Nat.two_pow_pos e
    by_cases hr : r % 2 = 1
    · rw [pop_more (n := r) (by omega), hr] at hp
      rcases List.eq_nil_or_concat ps with rfl | ⟨qs, z, rfl⟩
      · simp at hp; omega
      · rw [List.concat_eq_append] at hp ⊢
        rw [List.length_append, List.length_singleton] at hp
        have hn : (2 ^ (e + 1) + r) % 2 = 1 := by omega
        have hh : (2 ^ (e + 1) + r) / 2 = 2 ^ e + r / 2 := by omega
        have ih := mgrow_top e (r / 2) p qs (nd D z d) (by omega) (by omega)
        have e1 := mgrow_odd D (ps := p :: qs) (z := z) (n := 2 ^ (e + 1) + r) (d := d) hn
        rw [List.cons_append, hh] at e1
        have e2 := mgrow_odd D (ps := qs) (z := z) (n := r) (d := d) hr
        rw [e1, e2]
        exact ⟨fun h => ih.1 (by omega), fun h => ih.2 (by omega)⟩
    · have e1 := mgrow_even D (ps := p :: ps) (n := 2 ^ (e + 1) + r) (d := d) (by omega)
      have e2 := mgrow_even D (ps := ps) (n := r) (d := d) (by omega)
      rw [e1, e2]
      exact ⟨fun _ => rfl, fun h => by omega⟩
/-- The peaks of one text more. -/
theorem mgrow_pks : ∀ (m : Nat) (l : List (List Nat)) (t : List Nat), l.length ≤ m → mgrow D (mpks D l) l.length (lf D t) = mpks D (l ++ [t])
  | m, l, t, hm => by
    by_cases hl : l.length = 0
    · have := List.eq_nil_of_length_eq_zero hl
      subst this
      rw [mpks_nil, List.length_nil, mgrow_even D (by rfl), List.nil_append, List.nil_append, mpks_more D (l := [t]) (e := 0) (by simp) (by simp)]
      simp [mpks_nil, mroot_one]
    · obtain ⟨e, h1, h2⟩ := exp_of (n := l.length) (by omega)
      have h0 := Nat.two_pow_pos e
      have h3 : 2 ^ (e + 1) = 2 * 2 ^ e := by rw [Nat.pow_succ, Nat.mul_comm]
      cases m with
      | zero => omega
      | succ m =>
        obtain ⟨r, hr⟩ : ∃ r, l.length - 2 ^ e = r := ⟨_, rfl⟩
        have hlr : l.length = 2 ^ e + r := by omega
        have hdl : (l.drop (2 ^ e)).length = r := by rw [List.length_drop, hr]
        have ih := mgrow_pks m (l.drop (2 ^ e)) t (by omega)
        have hpl := mpks_len D (l.drop (2 ^ e)).length (l.drop (2 ^ e)) (Nat.le_refl _)
        rw [hdl] at ih hpl
        rw [mpks_more D h1 h2, hlr]
        have ht := mgrow_top D e r (mroot D (l.take (2 ^ e))) (mpks D (l.drop (2 ^ e))) (lf D t) (by omega) hpl
        have hdr : l.drop (2 ^ e) ++ [t] = (l ++ [t]).drop (2 ^ e) := by rw [List.drop_append_of_le_length (by omega)]
        have htk : l.take (2 ^ e) = (l ++ [t]).take (2 ^ e) := by rw [List.take_append_of_le_length (by omega)]
        have hl1 : (l ++ [t]).length = l.length + 1 := by simp
        by_cases hfull : r + 1 = 2 ^ e
        · obtain ⟨x, hx, hg⟩ := ht.2 hfull
          rw [hg]
          rw [ih, hdr] at hx
          have hdl2 : ((l ++ [t]).drop (2 ^ e)).length = 2 ^ e := by rw [List.length_drop, hl1]; omega
          rw [mpks_more D (l := (l ++ [t]).drop (2 ^ e)) (e := e) (by omega) (by omega)] at hx
          injection hx with hx _
          rw [List.take_of_length_le (by omega)] at hx
          have h4 : 2 ^ (e + 1 + 1) = 2 * 2 ^ (e + 1) := by rw [Nat.pow_succ, Nat.mul_comm]
          rw [mpks_more D (l := l ++ [t]) (e := e + 1) (by omega) (by omega), List.take_of_length_le (l := l ++ [t]) (i := 2 ^ (e + 1)) (by omega), List.drop_of_length_le (l := l ++ [t]) (i := 2 ^ (e + 1)) (by omega), mpks_nil,
            mroot_more D (l := l ++ [t]) (by omega), spl_mid (e := e) (by omega) (by omega), ← htk, hx]
        · rw [ht.1 (by omega), ih, hdr, htk, ← mpks_more D (l := l ++ [t]) (e := e) (by omega) (by omega)]
/-- The root that peaks have. -/
def mfold : List (List Nat) → List Nat
  | [] => D []
  | [p] => p
  | p :: q :: r => nd D p (mfold (q :: r))
theorem mfold_pks : ∀ (m : Nat) (l : List (List Nat)), l.length ≤ m → mfold D (mpks D l) = mroot D l
  | m, l, hm => by
    by_cases hl : l.length = 0
    · have := List.eq_nil_of_length_eq_zero hl
      subst this
      rw [mpks_nil, mroot_nil, mfold]
    · obtain ⟨e, h1, h2⟩ := exp_of (n := l.length) (by omega)
      have h0 := Nat.two_pow_pos e
      have h3 : 2 ^ (e + 1) = 2 * 2 ^ e := by rw [Nat.pow_succ, Nat.mul_comm]
      cases m with
      | zero => omega
      | succ m =>
        rw [mpks_more D h1 h2]
        by_cases hd : l.length = 2 ^ e
        · rw [List.take_of_length_le (by omega), List.drop_of_length_le (by omega), mpks_nil, mfold]
        · have ih := mfold_pks m (l.drop (2 ^ e)) (by rw [List.length_drop]; omega)
          have hne : 0 < (l.drop (2 ^ e)).length := by rw [List.length_drop]; omega
          obtain ⟨e', g1, g2⟩ := exp_of hne
          rw [mpks_more D g1 g2] at ih ⊢
          rw [mfold, ih, mroot_more D (l := l) (by omega), spl_mid (e := e) (by omega) (by omega)]
end
end Go.Proofs.YthbfodmpoheahaaDoor

/-
  What the document's own digest is to do, as one statement. Conditions: no more than 2^18 bytes.
-/
namespace Go.Proofs.YthbfodmpoheahaaDoor
open Go.RowKit
open Pol (co Sm)

/-- What the document's own digest is to do. -/
def RefOf : Prop := ∀ (b : List Nat) (A : Option Addr) (cb : Nat) (w : World), Rd w A b → b.length ≤ 262144 → Calls Tryd.prog 28 #[.slice A b.length cb] w (DgS (sha b) w)
end Go.Proofs.YthbfodmpoheahaaDoor

/-
  Parts of slices of bytes. Conditions: none; no function is named here.
-/
namespace Go.Proofs.YthbfodmpoheahaaDoor
open Go.RowKit
open Pol (co Sm)

/-- s[:h] of bytes. -/
theorem run_to_u8 (A : Option Addr) (len cap h : Nat) (hh : h ≤ cap) (W : World) :
    (Instr.slice 35 (.slice A len cap) none (some (.int .i64 (h : Int))) none).run Tryd.prog W = .ok (.slice A h cap) W := by
  obtain ⟨i0, hi, hz0, hz1, hz2⟩ := info_parts u8_info
  have he : Tryd.prog.elem 35 = 5 := by kernel_rfl
  rw [run_slice_h W 35 _ len cap (by rw [he]; exact Tryd.underlying35) .i64 (h : Int) (by omega) (by omega), he]
  cases A <;> simp [sizeOf, typeInfo, hi, hz1, Result.andThen, sliced, Addr.add]
/-- s[a:b] of bytes. -/
theorem run_cut_u8 (A : Option Addr) (len cap a b : Nat) (hab : a ≤ b) (hb : b ≤ cap) : ∃ X : Option Addr, (∀ W, (Instr.slice 35 (.slice A len cap) (some (.int .i64 (a : Int))) (some (.int .i64 (b : Int))) none).run Tryd.prog W = .ok (.slice X (b - a) (cap - a)) W) ∧
    ∀ w l, Rd w A l → b ≤ l.length → Rd w X (tab (b - a) (fun j => co l (a + j))) := by
  obtain ⟨i0, hi, hz0, hz1, hz2⟩ := info_parts u8_info
  have he : Tryd.prog.elem 35 = 5 := by kernel_rfl
  refine ⟨if cap = a then A else A.map (·.add a), fun W => ?_, fun w l h hl => ⟨tab_sm _ _ fun _ _ => h.1 _, fun i hi => ?_⟩⟩
  · rw [run_slice_lh W 35 _ len cap (by rw [he]; exact Tryd.underlying35) .i64 .i64 (a : Int) (b : Int) (by omega) (by omega) (by omega), he]
    cases A <;> simp [sizeOf, typeInfo, hi, hz1, Result.andThen, sliced]
  · rw [tab_len] at hi
    obtain ⟨b', o', e, hc⟩ := h.2 (a + i) (by omega)
    subst e
    refine ⟨b', o' + a, by rw [if_neg (by omega)]; simp [addr_add], ?_⟩
    rw [co_tab, if_pos hi, Nat.add_assoc]
    exact hc
/-- s[l:] of bytes, whole. -/
theorem run_rest_u8 (A : Option Addr) (len cap l : Nat) (hl : l ≤ len) (hc : len ≤ cap) : ∃ X : Option Addr, (∀ W, (Instr.slice 35 (.slice A len cap) (some (.int .i64 (l : Int))) none none).run Tryd.prog W = .ok (.slice X (len - l) (cap - l)) W) ∧
    (∀ w L, Rd w A L → L.length = len → Rd w X (tab (len - l) (fun j => co L (l + j)))) ∧ (∀ b o, l < cap → A = some ⟨b, o, none⟩ → X = some ⟨b, o + l, none⟩) := by
  obtain ⟨i0, hi, hz0, hz1, hz2⟩ := info_parts u8_info
  have he : Tryd.prog.elem 35 = 5 := by kernel_rfl
  refine ⟨if cap = l then A else A.map (·.add l), fun W => ?_, fun w L h hL => ⟨tab_sm _ _ fun _ _ => h.1 _, fun i hi => ?_⟩, fun b o h e => ?_⟩
  · rw [run_slice_l W 35 _ len cap (by rw [he]; exact Tryd.underlying35) .i64 (l : Int) (by omega) (by omega), he]
    cases A <;> simp [sizeOf, typeInfo, hi, hz1, Result.andThen, sliced]
  · rw [tab_len] at hi
    obtain ⟨b', o', e, hc⟩ := h.2 (l + i) (by omega)
    subst e
    refine ⟨b', o' + l, by rw [if_neg (by omega)]; simp [addr_add], ?_⟩
    rw [co_tab, if_pos hi, Nat.add_assoc]
    exact hc
  · subst e
    rw [if_neg (by omega)]
    simp [addr_add]

end Go.Proofs.YthbfodmpoheahaaDoor

/-
  What the document's own split, Leaf and Both of layer 11 do. Conditions: under what its Of is to do; a number of no more than 2^40, no more than 2^16 bytes.
-/
namespace Go.Proofs.YthbfodmpoheahaaDoor
open Go.RowKit
open Pol (co Sm)

theorem spl_one : spl 1 = 1 := by decide
theorem spl_zero : spl 0 = 1 := by decide
set_option maxHeartbeats 800000 in
set_option maxRecDepth 100000 in
theorem ref11_split (n : Nat) (w : World) (hn : n ≤ 1099511627776) :
    Calls Tryd.prog 30 #[.int .i64 (n : Int)] w (Hands (.int .i64 ((spl n : Nat) : Int)) w) := by
  obtain ⟨R, hR⟩ : ∃ R, spl n = R := ⟨_, rfl⟩
  have HR := Lib.hid hR
  rw [hR]
  clear hR
  go_enter Tryd.func30, Tryd.ntmps30
  go_wp2
  go_loopg [3] 64 (fun g s wx => ∃ j K q : Nat, j + g = 64 ∧ 2 ^ j = K ∧ (j = 0 ∨ K < n) ∧ s = .int .i64 (K : Int) ∧ wx = w.drewN q)
  case atStart => exact ⟨0, 1, 0, rfl, rfl, .inl rfl, rfl, rfl⟩
  case round =>
    obtain ⟨j, K, q, hjg, hK, hj, rfl, rfl⟩ := hrel
    have hKb : K ≤ 1099511627776 := by
      rcases hj with rfl | h
      · rw [← hK]; decide
      · omega
    have hKp : 0 < K := by rw [← hK]; exact Nat.two_pow_pos j
    have e1 : IntKind.i64.wrap (2 * (K : Int)) = 2 * (K : Int) := by rw [IntKind.wrap_i64]; omega
    by_cases h2 : 2 * K < n
    · have d1 : decide (2 * (K : Int) < (n : Int)) = true := decide_eq_true (by omega)
      have d2 : 2 * (K : Int) < (n : Int) := by omega
      cases gk with
      | zero =>
        have : j = 64 := by omega
        subst this
        have h64 : (2 : Nat) ^ 64 = 18446744073709551616 := by decide
        omega
      | succ g =>
        have HK := Lib.hid hK
        have HJ := Lib.hid hjg
        clear hK hj hjg
        go_wp2
        go_roundg g
        case measure => omega
        case rel => exact ⟨j + 1, 2 * K, q, by have := HJ.out; omega, by rw [Nat.pow_succ, HK.out]; omega, .inr h2, by go_num, rfl⟩
    · have d1 : decide (2 * (K : Int) < (n : Int)) = false := decide_eq_false (by omega)
      have d2 : ¬ 2 * (K : Int) < (n : Int) := by omega
      have hKR : K = R := by
        rw [← HR.out]
        rcases hj with rfl | h
        · have hk1 : K = 1 := by rw [← hK]
          have : n = 0 ∨ n = 1 ∨ n = 2 := by omega
          rcases this with rfl | rfl | rfl
          · rw [spl_zero]; exact hk1
          · rw [spl_one]; exact hk1
          · rw [hk1]; decide
        · rw [spl_mid (e := j) (by omega) (by rw [Nat.pow_succ]; omega), hK]
      clear HR
      subst hKR
      clear hK hj hjg
      go_wp2
      go_ret
      exact ⟨rfl, q, rfl⟩
set_option maxHeartbeats 800000 in
set_option maxRecDepth 100000 in
theorem ref11_leaf (R : RefOf) (t : List Nat) (A : Option Addr) (c : Nat) (w : World) (hr : Rd w A t) (hl : t.length ≤ 65536) :
    Calls Tryd.prog 29 #[.slice A t.length c] w (Tells (dgv (lf sha t)) w) := by
  obtain ⟨g0, hg0⟩ : ∃ g, w.heap.size = g := ⟨_, rfl⟩
  have HW0 := Lib.hid hg0
  have HR := Lib.hid hr
  have HT := Lib.hid (show ([0] ++ t).length = t.length + 1 ∧ Sm ([0] ++ t) from ⟨by simp, sm_app (fun i => by match i with | 0 => decide | i + 1 => simp [co]) hr.1⟩)
  have HOF := Lib.hid (fun A c W (h : Rd W A ([0] ++ t)) => R ([0] ++ t) A c W h (by rw [HT.out.1]; omega))
  obtain ⟨n, hn⟩ : ∃ n, t.length = n := ⟨_, rfl⟩
  have HN := Lib.hid hn
  rw [hn] at hl HT ⊢
  rw [HT.out.1] at HOF
  have hz := zero_digest.1
  have HZ32 := Lib.hid (fun (_ : Unit) => show (bt 32 fun _ => 0).size = 32 from bt_size _ _)
  obtain ⟨Z, hZ⟩ : ∃ Z, (bt 32 fun _ => 0) = Z := ⟨_, rfl⟩
  rw [hZ] at hz HZ32
  unfold DgS at HOF
  have HL := Lib.hid (show sha ([0] ++ t) = lf sha t from rfl)
  rw [HL.out] at HOF
  clear HL
  obtain ⟨D, hD⟩ : ∃ D, lf sha t = D := ⟨_, rfl⟩
  rw [hD] at HOF ⊢
  clear hr hn hZ hD
  have hx1 := (Ext.refl w).alloc (.cells Z 30)
  have hr0 : (w.alloc (.cells Z 30)).heap[g0]? = some (.cells Z 30 (0, 0)) := by rw [← hg0]; exact heap_alloc_new w _
  have hs1 : (w.alloc (.cells Z 30)).heap.size = g0 + 1 := by rw [← hg0]; simp
  obtain ⟨w1, hw1⟩ : ∃ q, w.alloc (.cells Z 30) = q := ⟨_, rfl⟩
  rw [hw1] at hx1 hr0 hs1
  have HW1 := Lib.hid hw1
  have HX1 := Lib.hid hx1
  have HR0 := Lib.hid hr0
  have HM0 := Lib.hid (show Mine (w1.alloc (.cells #[.int .u8 0] 5)) (g0 + 1) (.slice (some ⟨g0 + 1, 0, none⟩) 1 1) [0] from by rw [← hs1]; exact mine_lit11 w1 [0] (by decide))
  have HR1 := Lib.hid ((HR.out.ext HX1.out).ext ((Ext.refl _).alloc (.cells #[.int .u8 0] 5)))
  have HS1 := Lib.hid (show g0 + 1 ≤ (w1.alloc (.cells #[.int .u8 0] 5)).heap.size from by simp; omega)
  have HZ1 := Lib.hid hs1
  have HLN := Lib.hid (show [0].length + t.length ≤ 140737488355328 from by rw [HN.out]; simp; omega)
  clear hx1 hr0 hw1 hs1
  go_enter Tryd.func29, Tryd.ntmps29
  go_wp2_with (at_builtin; (rw [HW1.out]; refine wpList_append_rd rfl (.tmp 3) (.tmp 4) rfl (g0 + 1) _ [0] t rfl HM0.out A n c rfl HN.out HR1.out HLN.out HS1.out ?_; intro v5 w5 hm5 hg5 hb5; obtain ⟨B5, c5, rfl, hc5, hr5⟩ := hm5.slice HT.out.2; have HX5 := Lib.hid ((HX1.out.alloc (.cells #[.int .u8 0] 5)).more hg5 (fun k e => by injection e with e; rw [← e, ← HZ1.out]; exact HX1.out.size)); have HX15 := Lib.hid (((Ext.refl w1).alloc (.cells #[.int .u8 0] 5)).more hg5 (fun k e => by injection e with e; rw [← e, ← HZ1.out]; exact Nat.le_refl _)); have HR5 := Lib.hid hr5; rw [HT.out.1] at hc5 ⊢; clear hm5 hg5 hb5 hr5))
  refine (HOF.out B5 c5 w5 HR5.out).mono ?_
  rintro e w9 ⟨V, rfl, hV, hx9⟩
  have HV := Lib.hid hV
  have HX9 := Lib.hid (HX15.out.trans hx9)
  have HR9 := Lib.hid (WBlk.ext' HR0.out HX9.out)
  have HI9 := Lib.hid hV.info
  have HO9 := Lib.hid hV.one
  have HZ9 := Lib.hid (show Z.size = V.size from by rw [hV.1]; exact HZ32.out ())
  have HG3 := Lib.hid (setRow_heap _ g0 _ V _ _ HR9.out)
  have HX3 := Lib.hid ((HX1.out.trans HX9.out).setRow (g := g0) (by rw [HW0.out]; exact Nat.le_refl _) V)
  clear hV hx9
  go_wp2_with (with_reducible refine wpList_store_all rfl 30 (.tmp 2) (.tmp 6) rfl g0 Z V rfl rfl HR9.out HI9.out HZ9.out HO9.out ?_)
  exact ⟨rfl, .agg V, results_cell_row Tryd.results29 _ _ g0 30 V (0, 0) _ rfl HG3.out Tryd.underlying30 rfl HI9.out, by rw [HV.out.val], HX3.out⟩
theorem rd_of_blk {w : World} {g : Nat} {a : List Nat} {T : TypeId} {fr : Nat × Nat} (h : w.heap[g]? = some (.cells (bt 32 (co a)) T fr)) (ha : a.length = 32) (hs : Sm a) : Rd w (some ⟨g, 0, none⟩) a :=
  ⟨hs, fun i hi => ⟨g, 0, rfl, by rw [cell_of_row w g _ _ _ _ h, Nat.zero_add, bt_at 32 _ i (by omega)]⟩⟩
set_option maxHeartbeats 1600000 in
set_option maxRecDepth 100000 in
theorem ref11_both (R : RefOf) (a b : List Nat) (w : World) (ha : a.length = 32) (hb : b.length = 32) (hsa : Sm a) (hsb : Sm b) :
    Calls Tryd.prog 31 #[dgv a, dgv b] w (Tells (dgv (nd sha a b)) w) := by
  obtain ⟨g0, hg0⟩ : ∃ g, w.heap.size = g := ⟨_, rfl⟩
  have HW0 := Lib.hid hg0
  have HT := Lib.hid (show ([1] ++ a).length = 33 ∧ Sm ([1] ++ a) from ⟨by simp [ha], sm_app (fun i => by match i with | 0 => decide | i + 1 => simp [co]) hsa⟩)
  have HT2 := Lib.hid (show ([1] ++ a ++ b).length = 65 ∧ Sm ([1] ++ a ++ b) from ⟨by simp [ha, hb], sm_app HT.out.2 hsb⟩)
  have HOF := Lib.hid (fun A c W (h : Rd W A ([1] ++ a ++ b)) => R ([1] ++ a ++ b) A c W h (by rw [HT2.out.1]; omega))
  rw [HT2.out.1] at HOF
  have hz := zero_digest.1
  have HZ32 := Lib.hid (fun (_ : Unit) => show (bt 32 fun _ => 0).size = 32 from bt_size _ _)
  obtain ⟨Z, hZ⟩ : ∃ Z, (bt 32 fun _ => 0) = Z := ⟨_, rfl⟩
  rw [hZ] at hz HZ32
  unfold DgS at HOF
  have HL := Lib.hid (show sha ([1] ++ a ++ b) = nd sha a b from by rw [List.append_assoc]; rfl)
  rw [HL.out] at HOF
  clear HL
  obtain ⟨D, hD⟩ : ∃ D, nd sha a b = D := ⟨_, rfl⟩
  rw [hD] at HOF ⊢
  unfold dgv
  have HRA := Lib.hid (fun (W : World) (g : Nat) (h : W.heap[g]? = some (.cells (bt 32 (co a)) 30 (0, 0))) => rd_of_blk h ha hsa)
  have HRB := Lib.hid (fun (W : World) (g : Nat) (h : W.heap[g]? = some (.cells (bt 32 (co b)) 30 (0, 0))) => rd_of_blk h hb hsb)
  obtain ⟨VA, hVA⟩ : ∃ V, bt 32 (co a) = V := ⟨_, rfl⟩
  obtain ⟨VB, hVB⟩ : ∃ V, bt 32 (co b) = V := ⟨_, rfl⟩
  rw [hVA] at HRA ⊢
  rw [hVB] at HRB ⊢
  obtain ⟨VD, hVD⟩ : ∃ V, bt 32 (co D) = V := ⟨_, rfl⟩
  have HVD := Lib.hid (fun (_ : Unit) => hVD)
  rw [hVD]
  have hx1 := (((Ext.refl w).alloc (.cells VA 30)).alloc (.cells VB 30)).alloc (.cells Z 30)
  have hs1 : (((w.alloc (.cells VA 30)).alloc (.cells VB 30)).alloc (.cells Z 30)).heap.size = g0 + 3 := by rw [← hg0]; simp
  have hr0 : (((w.alloc (.cells VA 30)).alloc (.cells VB 30)).alloc (.cells Z 30)).heap[g0]? = some (.cells VA 30 (0, 0)) := by
    rw [heap_alloc_old _ _ (by simp; omega), heap_alloc_old _ _ (by simp; omega), ← hg0]; exact heap_alloc_new w _
  have hr1 : (((w.alloc (.cells VA 30)).alloc (.cells VB 30)).alloc (.cells Z 30)).heap[g0 + 1]? = some (.cells VB 30 (0, 0)) := by
    have h := heap_alloc_new (w.alloc (.cells VA 30)) (.cells VB 30)
    rw [show (w.alloc (.cells VA 30)).heap.size = g0 + 1 from by rw [← hg0]; simp] at h
    rw [heap_alloc_old _ _ (by simp; omega)]; exact h
  have hr2 : (((w.alloc (.cells VA 30)).alloc (.cells VB 30)).alloc (.cells Z 30)).heap[g0 + 2]? = some (.cells Z 30 (0, 0)) := by
    have h := heap_alloc_new ((w.alloc (.cells VA 30)).alloc (.cells VB 30)) (.cells Z 30)
    rw [show ((w.alloc (.cells VA 30)).alloc (.cells VB 30)).heap.size = g0 + 2 from by rw [← hg0]; simp] at h
    exact h
  obtain ⟨w1, hw1⟩ : ∃ q, ((w.alloc (.cells VA 30)).alloc (.cells VB 30)).alloc (.cells Z 30) = q := ⟨_, rfl⟩
  rw [hw1] at hx1 hs1 hr0 hr1 hr2
  have HW1 := Lib.hid hw1
  have HX1 := Lib.hid hx1
  have HZ1 := Lib.hid hs1
  have HR2 := Lib.hid hr2
  have HAA := Lib.hid (HRA.out w1 g0 hr0)
  have HBB := Lib.hid (HRB.out w1 (g0 + 1) hr1)
  have HM0 := Lib.hid (show Mine (w1.alloc (.cells #[.int .u8 1] 5)) (g0 + 3) (.slice (some ⟨g0 + 3, 0, none⟩) 1 1) [1] from by rw [← hs1]; exact mine_lit11 w1 [1] (by decide))
  have HA1 := Lib.hid (HAA.out.ext ((Ext.refl _).alloc (.cells #[.int .u8 1] 5)))
  have HS1 := Lib.hid (show g0 + 3 ≤ (w1.alloc (.cells #[.int .u8 1] 5)).heap.size from by simp; omega)
  have HLN := Lib.hid (show [1].length + a.length ≤ 140737488355328 from by rw [ha]; decide)
  have HLN2 := Lib.hid (show ([1] ++ a).length + b.length ≤ 140737488355328 from by rw [hb, HT.out.1]; decide)
  have HLA := Lib.hid ha
  have HLB := Lib.hid hb
  clear hx1 hr0 hr1 hr2 hw1 hs1 hVA hVB hVD hD hZ ha hb hsa hsb HRA HRB HAA
  go_enter Tryd.func31, Tryd.ntmps31
  go_wp2_with (first
    | (at_builtin; rw [HW1.out]; refine wpList_append_rd rfl (.tmp 6) (.tmp 7) rfl (g0 + 3) _ [1] a rfl HM0.out (some ⟨g0, 0, none⟩) 32 32 rfl HLA.out HA1.out HLN.out HS1.out ?_; intro v5 w5 hm5 hg5 hb5; obtain ⟨B5, c5, rfl, hc5, hr5⟩ := hm5.slice HT.out.2; rw [HT.out.1] at hm5 hc5 ⊢; have HM5 := Lib.hid hm5; have HX15 := Lib.hid (((Ext.refl w1).alloc (.cells #[.int .u8 1] 5)).more hg5 (fun k e => by injection e with e; rw [← e, ← HZ1.out]; exact Nat.le_refl _)); have HB5 := Lib.hid (HBB.out.ext HX15.out); have HS5 := Lib.hid (show g0 + 3 ≤ w5.heap.size from by have := HX15.out.size; have := HZ1.out; omega); clear hm5 hg5 hb5 hr5 hc5)
    | (at_builtin; refine wpList_append_rd rfl (.tmp 9) (.tmp 10) rfl (g0 + 3) _ ([1] ++ a) b rfl HM5.out (some ⟨g0 + 1, 0, none⟩) 32 32 rfl HLB.out HB5.out HLN2.out HS5.out ?_; intro v6 w6 hm6 hg6 hb6; obtain ⟨B6, c6, rfl, hc6, hr6⟩ := hm6.slice HT2.out.2; have hbk := HM5.out.block; rw [HT2.out.1]; have HX16 := Lib.hid (HX15.out.more hg6 (fun k e => by rw [HZ1.out]; exact (hbk k e).1)); have HR6 := Lib.hid hr6; clear hm6 hg6 hb6 hr6 hbk hc6))
  refine (HOF.out B6 c6 w6 HR6.out).mono ?_
  rintro e w9 ⟨V, rfl, hV, hx9⟩
  have HV := Lib.hid hV
  have HX9 := Lib.hid (HX16.out.trans hx9)
  have HR9 := Lib.hid (WBlk.ext' HR2.out HX9.out)
  have HI9 := Lib.hid hV.info
  have HO9 := Lib.hid hV.one
  have HZ9 := Lib.hid (show Z.size = V.size from by rw [hV.1]; exact HZ32.out ())
  have HG3 := Lib.hid (setRow_heap _ (g0 + 2) _ V _ _ HR9.out)
  have HX3 := Lib.hid ((HX1.out.trans HX9.out).setRow (g := g0 + 2) (by rw [HW0.out]; omega) V)
  clear hV hx9
  go_wp2_with (with_reducible refine wpList_store_all rfl 30 (.tmp 4) (.tmp 12) rfl (g0 + 2) Z V rfl rfl HR9.out HI9.out HZ9.out HO9.out ?_)
  exact ⟨rfl, .agg V, results_cell_row Tryd.results31 _ _ (g0 + 2) 30 V (0, 0) _ rfl HG3.out Tryd.underlying30 rfl HI9.out, by rw [HV.out.is, HVD.out ()], HX3.out⟩
end Go.Proofs.YthbfodmpoheahaaDoor

/-
  A region that draws its order, by an invariant: what holds of the listed operations, whichever they are, is kept by each operation that may come up next. Conditions: each operation waits for operations ahead of it in the text alone; of no program in particular.
-/
namespace Go.Proofs.YthbfodmpoheahaaDoor
open Go

section
variable {P : Program} {ops : Array Oper} {Q : Exit → Act → World → Prop}

theorem Oper.wp_then {o : Oper} {a : Act} {w : World} {K K' : Act → World → Prop} (h : ∀ a w, K' a w → K a w) (hh : o.wp P a w K' (Exit.then K Q)) : o.wp P a w K Q := by
  unfold Oper.wp at *
  generalize (execOp a.eval o).run P w = r at *
  cases r with
  | ok n w' =>
    cases n <;> simp only [Oper.upon] at hh ⊢ <;>
      first
        | exact h _ _ hh
        | exact Calls.mono hh (fun e w'' he => by cases e <;> first | exact h _ _ he | exact he)
        | exact Rows.mono hh (fun _ _ he => h _ _ he)
  | halt x w' => cases x <;> simp only [Oper.upon] at hh ⊢ <;> exact hh
theorem wpOp_of_one {i : Nat} {o : Oper} {a : Act} {w : World} {K : Act → World → Prop} (hi : ops[i]? = some o) (h : wpList P ops (Exit.then K Q) [o] a w) : wpOp P ops Q i K a w := by
  unfold wpOp
  rw [hi]
  simp only
  unfold wpList at h
  split
  · rename_i hw
    rw [if_pos hw] at h
    rcases h with h | h
    · exact .inl (Oper.wp_then (fun a w h => by unfold wpList at h; exact h) h)
    · exact .inr h
  · rename_i hw
    rw [if_neg hw] at h
    unfold wpList at h
    exact h
def depsB (l : List Oper) : Bool := (List.range l.length).all fun i => match l[i]? with | some o => o.after.all (fun e => decide (e.on < i)) | none => true
theorem depsB_spec {l : List Oper} (h : depsB l = true) {i : Nat} {o : Oper} (hi : l[i]? = some o) : ∀ e ∈ o.after, e.on < i := by
  have hlt : i < l.length := (List.getElem?_eq_some_iff.1 hi).1
  have h1 := List.all_eq_true.1 h i (List.mem_range.2 hlt)
  rw [hi] at h1
  intro e he
  have h2 := (Array.all_eq_true_iff_forall_mem.1 h1) e he
  simpa using h2
theorem getD_true_of {L : Array Bool} {k : Nat} (h : L.getD k false = true) : L.getD k true = true := by
  rw [Array.getD_eq_getD_getElem?] at h ⊢
  cases hk : L[k]? with
  | none => rfl
  | some b => rw [hk] at h; exact h
theorem getD_false_of {L : Array Bool} {k : Nat} (hk : k < L.size) (h : L.getD k true = true) : L.getD k false = true := by
  rw [Array.getD_eq_getD_getElem?] at h ⊢
  rw [Array.getElem?_eq_getElem hk] at h ⊢
  exact h
theorem getD_listed (L : Array Bool) (i j : Nat) : (L.setIfInBounds i true).getD j true = (j == i || L.getD j true) := by
  by_cases e : j = i
  · subst e
    rw [Array.getD_eq_getD_getElem?, Array.getElem?_setIfInBounds_self]
    split <;> simp
  · rw [getD_set_ne true (fun h => e h.symm), show (j == i) = false from beq_eq_false_iff_ne.2 e, Bool.false_or]

theorem wpAny_inv {l : List Oper} (I : (Nat → Bool) → Act → World → Prop) (hB : depsB l = true)
    (hs : ∀ i o, l[i]? = some o → ∀ L a w, I L a w → L i = false → (∀ e ∈ o.after, Region.binds .any e = true → L e.on = true) → wpList P l.toArray (Exit.then (fun a' w' => I (fun j => j == i || L j) a' w') Q) [o] a w)
    (he : ∀ L a w, (∀ i, i < l.length → L i = true) → I L a w → Q .normal a w) :
    ∀ (f : Nat) (L : Array Bool) (a : Act) (w : World) (U : List Nat), L.size = l.length → U.length = f → (∀ i, L.getD i true = false → i ∈ U) → I (fun i => L.getD i true) a w → wpAny P .any l.toArray Q f L a w := by
  have hall : ∀ L : Array Bool, L.size = l.length → Region.ready .any l.toArray L = [] → ∀ i, i < l.length → L.getD i true = true := fun L hsz hr i => by
    induction i using Nat.strongRecOn with
    | _ i ih =>
      intro hi
      cases hb : L.getD i true with
      | true => rfl
      | false =>
        have hoi : l.toArray[i]? = some l[i] := by simp [hi]
        have hm : i ∈ Region.ready .any l.toArray L := mem_ready.2 ⟨hb, _, hoi, fun e hee _ => by
          have hlt := depsB_spec hB (i := i) (o := l[i]) (by simp [hi]) e hee
          exact getD_false_of (by omega) (ih e.on hlt (by omega))⟩
        rw [hr] at hm
        cases hm
  intro f
  induction f with
  | zero =>
    intro L a w U hsz hU hin hI
    have hU0 : U = [] := List.eq_nil_of_length_eq_zero hU
    subst hU0
    have hL : ∀ i, L.getD i true = true := fun i => by
      cases hb : L.getD i true with
      | true => rfl
      | false => exact absurd (hin i hb) (by simp)
    refine ⟨?_, he _ a w (fun i _ => hL i) hI⟩
    rcases hr : Region.ready .any l.toArray L with _ | ⟨i, r⟩
    · rfl
    · have hm : i ∈ Region.ready .any l.toArray L := by rw [hr]; simp
      have := (mem_ready.1 hm).1
      rw [hL i] at this
      cases this
  | succ f ih =>
    intro L a w U hsz hU hin hI
    refine ⟨fun hr => he _ a w (hall L hsz hr) hI, fun i hi => ?_⟩
    obtain ⟨hun, o, ho, haft⟩ := mem_ready.1 hi
    have ho' : l[i]? = some o := by simpa using ho
    have h1 := hs i o ho' _ a w hI hun (fun e hee hb => getD_true_of (haft e hee hb))
    have hU' : (U.erase i).length = f := by rw [List.length_erase_of_mem (hin i hun)]; omega
    refine wpOp_mono (fun a' w' hI' => ?_) (wpOp_of_one ho h1)
    refine ih _ a' w' (U.erase i) (by simpa using hsz) hU' (fun j hj => ?_) ?_
    · rw [getD_listed, Bool.or_eq_false_iff] at hj
      exact (List.mem_erase_of_ne (by simpa using hj.1)).2 (hin j hj.2)
    · simp only [getD_listed]
      exact hI'
theorem wp_region_inv {id : Nat} {a : Act} {w : World} {l : List Oper} (I : (Nat → Bool) → Act → World → Prop) (hm : P.follows .mixedOrders = true) (hB : depsB l = true) (h0 : I (fun i => !decide (i < l.length)) a w.drew)
    (hs : ∀ i o, l[i]? = some o → ∀ L a w, I L a w → L i = false → (∀ e ∈ o.after, Region.binds .any e = true → L e.on = true) → wpList P l.toArray (Exit.then (fun a' w' => I (fun j => j == i || L j) a' w') Q) [o] a w)
    (he : ∀ L a w, (∀ i, i < l.length → L i = true) → I L a w → wpList P l.toArray Q [] a w) : (Code.region id l.toArray true).wp P Q a w := by
  have e0 : (fun i => (Array.replicate l.toArray.size false).getD i true) = fun i => !decide (i < l.length) := by
    funext i
    rw [Array.getD_eq_getD_getElem?, Array.getElem?_replicate]
    by_cases h : i < l.length <;> simp [h]
  refine wp_region_any hm ?_
  refine wpAny_inv I hB hs he l.toArray.size _ a _ (List.range l.length) (by simp) (by simp) (fun i hi => ?_) (by rw [e0]; exact h0)
  have h1 := congrFun e0 i
  rw [hi] at h1
  exact List.mem_range.2 (by simpa using h1.symm)
end
end Go.Proofs.YthbfodmpoheahaaDoor

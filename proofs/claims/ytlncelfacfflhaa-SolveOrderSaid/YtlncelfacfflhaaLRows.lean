/-
  Rows of a call's own, in a block of slices that are changed one by one; and lists of ints of a call's own. Conditions: none.
-/
import Derived.Test.YtlncelfacfflhaaS3Right
import Derived.Test.YtlncelfacfflhaaRefInv
namespace Go.Proofs.Ytlncelfacfflhaa
open Go.RowKit
open Pol (co Sm)

theorem tab_congr {n : Nat} {f f' : Nat → Nat} (h : ∀ i, i < n → f i = f' i) : tab n f = tab n f' := by
  unfold tab
  exact List.map_congr_left fun i hi => h i (List.mem_range.1 hi)
theorem tab_co (l : List Nat) : tab l.length (co l) = l := Lin.list_ext (by rw [tab_len]) fun i hi => by
  rw [tab_len] at hi
  rw [co_tab, if_pos hi]
/-- A new list of N bytes, in a block that was laid since. -/
def FreshN (N : Nat) (f : Nat → Nat) (w : World) (e : Ending) (w' : World) : Prop := ∃ B c, e = .returned (.slice B N c) ∧ N ≤ c ∧ Rd w' B (tab N f) ∧ (∀ b o, B = some ⟨b, o, none⟩ → w.heap.size ≤ b) ∧ Ext w w'
theorem Fresh.tab {N : Nat} {f f' : Nat → Nat} {w : World} {e : Ending} {w' : World} (h : Fresh (tab N f) w e w') (hf : ∀ i, i < N → f i = f' i) : FreshN N f' w e w' := by
  obtain ⟨B, c, h1, h2, h3, h4, h5⟩ := h
  rw [tab_len] at h1 h2
  rw [tab_congr hf] at h3
  exact ⟨B, c, h1, h2, h3, h4, h5⟩
theorem scaled_tab (N : Nat) (f : Nat → Nat) (A : Option Addr) (ca y : Nat) (w : World) (ha : Rd w A (tab N f)) (hy : y < 256) (hl : N ≤ 65536) :
    Calls Try.prog 28 #[.slice A N ca, .int .u8 (y : Int)] w (FreshN N (fun k => Gf.mul (f k) y) w) := by
  have h := ref_scaled (tab N f) A ca y w ha hy (by rw [tab_len]; exact hl)
  rw [tab_len] at h
  exact h.mono fun _ _ h => h.tab fun i hi => by rw [co_tab, if_pos hi]
theorem plus_tab (N : Nat) (f f' : Nat → Nat) (A B : Option Addr) (ca cb : Nat) (w : World) (ha : Rd w A (tab N f)) (hb : Rd w B (tab N f')) (hl : N ≤ 65536) :
    Calls Try.prog 29 #[.slice A N ca, .slice B N cb] w (FreshN N (fun k => f k ^^^ f' k) w) := by
  have h := ref_plus (tab N f) (tab N f') A B ca cb w ha hb (by rw [tab_len]; exact hl) (by rw [tab_len, tab_len])
  rw [tab_len, tab_len] at h
  exact h.mono fun _ _ h => h.tab fun i hi => by rw [co_tab, co_tab, if_pos hi, if_pos hi]

/-- Block g holds m slices of N bytes each, the bytes of slice i being F i; none of them lies in a block of X. -/
def LRows (w : World) (g m N : Nat) (F : Nat → Nat → Nat) (X : Nat → Prop) : Prop := ∀ i, i < m → ∃ B c, w.cell? ⟨g, i, none⟩ = some (.slice B N c) ∧ w.frozen? ⟨g, i, none⟩ = false ∧ N ≤ c ∧ Rd w B (tab N (F i)) ∧ ∀ b o, B = some ⟨b, o, none⟩ → 0 < N → ¬ X b
theorem LRows.ext {w w' : World} {g m N : Nat} {F : Nat → Nat → Nat} {X : Nat → Prop} (h : LRows w g m N F X) (hx : Ext w w') : LRows w' g m N F X := fun i hi => by
  obtain ⟨B, c, h1, h2, h3, h4, h5⟩ := h i hi
  exact ⟨B, c, (hx.below.cell (p := ⟨g, i, none⟩) (block_lt_of_cell h1)).trans h1, (hx.below.frozen (p := ⟨g, i, none⟩) (block_lt_of_cell h1)).trans h2, h3, h4.ext hx, h5⟩
theorem LRows.drewN {w : World} {g m N : Nat} {F : Nat → Nat → Nat} {X : Nat → Prop} (h : LRows w g m N F X) (n : Nat) : LRows (w.drewN n) g m N F X := h
theorem LRows.congr {w : World} {g m N : Nat} {F F' : Nat → Nat → Nat} {X : Nat → Prop} (h : LRows w g m N F X) (he : ∀ i, i < m → ∀ k, k < N → F i k = F' i k) : LRows w g m N F' X := fun i hi => by
  obtain ⟨B, c, h1, h2, h3, h4, h5⟩ := h i hi
  exact ⟨B, c, h1, h2, h3, by rw [← tab_congr (he i hi)]; exact h4, h5⟩
theorem LRows.avoid {w : World} {g m N : Nat} {F : Nat → Nat → Nat} {X X' : Nat → Prop} (h : LRows w g m N F X) (he : ∀ b, b < w.heap.size → X' b → X b) : LRows w g m N F X' := fun i hi => by
  obtain ⟨B, c, h1, h2, h3, h4, h5⟩ := h i hi
  refine ⟨B, c, h1, h2, h3, h4, fun b o e hN hx => h5 b o e hN (he b ?_ hx)⟩
  obtain ⟨b', o', e', hc⟩ := h4.2 0 (by rw [tab_len]; exact hN)
  rw [e] at e'
  injection e' with e'
  injection e' with e' _
  rw [e']
  exact block_lt_of_cell hc
/-- Behind a write into a block that the rows do not lie in. -/
theorem LRows.keep {w w' : World} {g m N : Nat} {F : Nat → Nat → Nat} {X : Nat → Prop} {row : Option Nat} (h : LRows w g m N F X) (hg : w.grownBy w' row) (hne : some g ≠ row) (hX : ∀ b, row = some b → X b) : LRows w' g m N F X := fun i hi => by
  obtain ⟨B, c, h1, h2, h3, h4, h5⟩ := h i hi
  refine ⟨B, c, hg.cell h1 hne, (World.frozen?_of_block (a := ⟨g, i, none⟩) (hg.block g (block_lt_of_cell h1) hne)).trans h2, h3, ⟨h4.1, fun j hj => ?_⟩, h5⟩
  obtain ⟨b, o, e, hc⟩ := h4.2 j hj
  rw [tab_len] at hj
  exact ⟨b, o, e, hg.cell hc (fun e' => h5 b o e (by omega) (hX b e'.symm))⟩
theorem grownBy_cell (w : World) (g o : Nat) (v : Value) : w.grownBy (w.setCell ⟨g, o, none⟩ v) (some g) :=
  ⟨rfl, rfl, rfl, by simp [World.setCell], fun k _ hk => Below.heap_setCell _ _ _ k (fun e => hk (by rw [e]))⟩
theorem LRows.store {w : World} {g m N : Nat} {F : Nat → Nat → Nat} {X : Nat → Prop} (h : LRows w g m N F X) (hX : X g) (k : Nat) (B : Option Addr) (c : Nat) (f : Nat → Nat) (hc : N ≤ c) (hr : Rd w B (tab N f)) (hB : ∀ b o, B = some ⟨b, o, none⟩ → 0 < N → ¬ X b) :
    LRows (w.setCell ⟨g, k, none⟩ (.slice B N c)) g m N (fun i => if i = k then f else F i) X := fun i hi => by
  have kr : ∀ (v : Value) (B' : Option Addr) (f' : Nat → Nat), Rd w B' (tab N f') → (∀ b o, B' = some ⟨b, o, none⟩ → 0 < N → ¬ X b) → Rd (w.setCell ⟨g, k, none⟩ v) B' (tab N f') := fun v B' f' hr' hB' =>
    ⟨hr'.1, fun j hj => by
      obtain ⟨b, o, e, hcl⟩ := hr'.2 j hj
      rw [tab_len] at hj
      exact ⟨b, o, e, (grownBy_cell w g k v).cell hcl (fun e' => hB' b o e (by omega) (by injection e' with e'; have e2 : b = g := e'; rw [e2]; exact hX))⟩⟩
  obtain ⟨B0, c0, h1, h2, h3, h4, h5⟩ := h i hi
  by_cases e : i = k
  · subst e
    dsimp only
    rw [if_pos rfl]
    exact ⟨B, c, World.cell?_setCell_same' _ _ _ (by rw [h1]; rfl), by rw [World.frozen?_setCell]; exact h2, hc, kr _ B f hr hB, hB⟩
  · dsimp only
    rw [if_neg e]
    exact ⟨B0, c0, (World.cell?_setCell_other _ _ _ _ (fun h => e (by cases h; rfl))).trans h1, by rw [World.frozen?_setCell]; exact h2, h3, kr _ B0 (F i) h4 h5, h5⟩

/-! ### Ints -/
theorem int_info : (Try.prog.info? 3).map (fun i => (i.zero, i.size, i.bytes)) = some (some (.int .i64 0), 1, 8) := by kernel_rfl
def iv (l : List Nat) : List Value := l.map fun x : Nat => Value.int .i64 (x : Int)
theorem iv_len (l : List Nat) : (iv l).length = l.length := by simp [iv]
theorem iv_at (l : List Nat) (i : Nat) (h : i < l.length) : (iv l)[i]? = some (.int .i64 ((co l i : Nat) : Int)) := by simp [iv, co, List.getElem?_eq_getElem h]
/-- From address A on lie the ints l. -/
def IRd (w : World) (A : Option Addr) (l : List Nat) : Prop := ∀ i, i < l.length → ∃ b o, A = some ⟨b, o, none⟩ ∧ w.cell? ⟨b, o + i, none⟩ = some (.int .i64 ((co l i : Nat) : Int))
theorem IRd.ext {w w' : World} {A : Option Addr} {l : List Nat} (h : IRd w A l) (hx : Ext w w') : IRd w' A l := fun i hi => by
  obtain ⟨b, o, e, hc⟩ := h i hi
  exact ⟨b, o, e, (hx.below.cell (p := ⟨b, o + i, none⟩) (block_lt_of_cell hc)).trans hc⟩
/-- A slice of ints of the call's own. -/
def IMine (w : World) (base : Nat) (v : Value) (l : List Nat) : Prop := w.ownsRow base 3 1 v l.length (iv l)
theorem IMine.nil (w : World) (base : Nat) : IMine w base (.slice none 0 0) [] := World.ownsRow_nil w base _ _
theorem IMine.slice {w : World} {base : Nat} {v : Value} {l : List Nat} (h : IMine w base v l) : ∃ B c, v = .slice B l.length c ∧ l.length ≤ c ∧ IRd w B l := by
  rcases h.2 with ⟨rfl, hn⟩ | ⟨g, cap, cur, rfl, _, hg, hnc, _, _, htake⟩
  · have : l = [] := List.eq_nil_of_length_eq_zero hn
    subst this
    exact ⟨none, 0, rfl, Nat.le_refl _, fun i hi => absurd hi (by simp)⟩
  · refine ⟨_, cap, rfl, hnc, fun i hi => ⟨g, 0, rfl, ?_⟩⟩
    rw [Nat.zero_add, cell_of_row w g i cur _ _ hg, ← iv_at l i hi, ← htake, List.getElem?_take, if_pos (by omega)]
    simp
theorem IMine.ext {w w' : World} {base : Nat} {v : Value} {l : List Nat} (h : IMine w base v l) (hx : Ext w w') : IMine w' base v l :=
  World.ownsRow.kept h (row := none) ⟨hx.below.os, hx.below.tape, hx.below.output, hx.below.size, fun k hk _ => hx.below.block k hk⟩ (by
    cases hb : v.ownBlock with
    | none => exact .inl rfl
    | some k => exact .inr (by simp))
theorem IMine.keep {w w' : World} {base : Nat} {v : Value} {l : List Nat} {row : Option Nat} (h : IMine w base v l) (hg : w.grownBy w' row) (hne : ∀ k, v.ownBlock = some k → some k ≠ row) : IMine w' base v l :=
  World.ownsRow.kept h hg (by
    cases hb : v.ownBlock with
    | none => exact .inl rfl
    | some k => exact .inr (hne k hb))
theorem IMine.block {w : World} {base : Nat} {v : Value} {l : List Nat} (h : IMine w base v l) : ∀ k, v.ownBlock = some k → base ≤ k ∧ k < w.heap.size := fun k hk => World.ownsRow.lt h k hk
theorem wpList_append_int {ops : Array Oper} {rest : List Oper} {o : Oper} {a : Act} {w : World} {Q : Exit → Act → World → Prop} (hgd : o.guard = none) (s x : Operand)
    (ho : o.op = .call { callee := .builtin .append, args := #[s, x], argTypes := #[35, 35] })
    (base : Nat) (v : Value) (l : List Nat) (n : Nat) (hs : a.eval s = v) (hown : IMine w base v l) (b c : Nat) (hx : a.eval x = .slice (some ⟨b, 0, none⟩) 1 c) (hr : w.cell? ⟨b, 0, none⟩ = some (.int .i64 (n : Int)))
    (hlen : l.length + 1 ≤ 1048576) (hbase : base ≤ w.heap.size)
    (h : ∀ v' w', IMine w' base v' (l ++ [n]) → w.grownBy w' v.ownBlock → (v'.ownBlock = v.ownBlock ∨ v'.ownBlock = some w.heap.size) → wpList Try.prog ops Q rest (a.put o.dst v') w') :
    wpList Try.prog ops Q (o :: rest) a w := by
  refine wpList_plain hgd fun K hK => ?_
  obtain ⟨i0, hi, hz0, hz1, hz2⟩ := info_parts int_info
  obtain ⟨v', w', h1, h2, h3, _, h5⟩ := run_append_own_at (P := Try.prog) w base 35 o.type 3 i0 (.int .i64 0) 1 8 Try.underlying35 hi hz0 hz1 hz2 rfl (by omega) v l.length (iv l) hown ⟨b, 0, none⟩ 1 c [.int .i64 (n : Int)] rfl
    (fun j u hu => by
      match j, hu with
      | 0, hu =>
        have e : (Value.int .i64 (n : Int)) = u := by simpa using hu
        rw [addr_add, ← e]
        exact hr) (fun u hu => by
      have e : u = Value.int .i64 (n : Int) := by simpa using hu
      rw [e]; rfl) (by unfold maxLen; omega) (by omega) hbase
  unfold Oper.wp execOp
  simp only [ho, resolve, invoke, builtin, Sem.run_bind, Sem.run_pure, Result.andThen_ok, List.map_toArray, List.map_cons, List.map_nil, hs, hx, h1]
  exact hK _ _ (h v' w' (by unfold IMine; rw [List.length_append, show iv (l ++ [n]) = iv l ++ [.int .i64 (n : Int)] from by simp [iv]]; exact h2) h3 h5)
end Go.Proofs.Ytlncelfacfflhaa

/-
  What append and make do with slices of bytes of a call's own, in terms of the lists that they read as. Conditions: the lengths add up to no more than 2^40.
-/
import Derived.Test.YtlncelfacfflhaaSlice
import Derived.Maps.AppendAt
namespace Go.Proofs.Ytlncelfacfflhaa
open Go.RowKit
open Pol (co Sm)

theorem u8_info : (Try.prog.info? 5).map (fun i => (i.zero, i.size, i.bytes)) = some (some (.int .u8 0), 1, 1) := by kernel_rfl
/-- Bytes as values. -/
def bv (l : List Nat) : List Value := l.map fun x : Nat => Value.int .u8 (x : Int)
theorem bv_len (l : List Nat) : (bv l).length = l.length := by simp [bv]
theorem bv_at (l : List Nat) (i : Nat) (h : i < l.length) : (bv l)[i]? = some (.int .u8 ((co l i : Nat) : Int)) := by
  simp [bv, co, List.getElem?_eq_getElem h]
theorem bv_one (l : List Nat) : ∀ u ∈ bv l, u.oneCell' = true := by
  intro u hu
  obtain ⟨x, _, rfl⟩ := List.mem_map.1 hu
  rfl
theorem bv_append (l m : List Nat) : bv (l ++ m) = bv l ++ bv m := by simp [bv]
/-- A slice of the call's own, of the bytes l. -/
def Mine (w : World) (base : Nat) (v : Value) (l : List Nat) : Prop := w.ownsRow base 5 1 v l.length (bv l)
theorem Mine.slice {w : World} {base : Nat} {v : Value} {l : List Nat} (h : Mine w base v l) (hs : Sm l) : ∃ B c, v = .slice B l.length c ∧ l.length ≤ c ∧ Rd w B l := by
  rcases h.2 with ⟨rfl, hn⟩ | ⟨g, cap, cur, rfl, _, hg, hnc, _, _, htake⟩
  · have : l = [] := List.eq_nil_of_length_eq_zero hn
    subst this
    exact ⟨none, 0, rfl, Nat.le_refl _, Rd.nil _ _⟩
  · refine ⟨_, cap, rfl, hnc, hs, fun i hi => ⟨g, 0, rfl, ?_⟩⟩
    rw [Nat.zero_add, cell_of_row w g i cur _ _ hg, ← bv_at l i hi, ← htake, List.getElem?_take, if_pos (by omega)]
    simp
theorem addr_add (b o j : Nat) : (⟨b, o, none⟩ : Addr).add j = ⟨b, o + j, none⟩ := Addr.add_mid b o j

theorem run_append_rd (w : World) (base : Nat) (ty : TypeId) (v : Value) (l m : List Nat) (hown : Mine w base v l) (A : Option Addr) (c : Nat) (hr : Rd w A m)
    (hlen : l.length + m.length ≤ 1099511627776) (hbase : base ≤ w.heap.size) :
    ∃ v' w', (Builtin.append_ #[27, 27] ty #[v, .slice A m.length c]).run Try.prog w = .ok v' w' ∧ Mine w' base v' (l ++ m) ∧ w.grownBy w' v.ownBlock ∧ (v'.ownBlock = v.ownBlock ∨ v'.ownBlock = some w.heap.size) := by
  obtain ⟨i0, hi, hz0, hz1, hz2⟩ := info_parts u8_info
  cases A with
  | none =>
    have hm : m = [] := by
      rcases Nat.eq_zero_or_pos m.length with h | h
      · exact List.eq_nil_of_length_eq_zero h
      · obtain ⟨_, _, e, _⟩ := hr.2 0 h; cases e
    subst hm
    refine ⟨v, w, ?_, by simpa using hown, ⟨rfl, rfl, rfl, Nat.le_refl _, fun _ _ _ => rfl⟩, .inl rfl⟩
    rcases hown.2 with ⟨rfl, _⟩ | ⟨g, cap, cur, rfl, _, _, hnc, _⟩
    · simp [Builtin.append_, run_underlying Try.underlying27, sizeOf, typeInfo, hi, Builtin.lenOf, Builtin.firstCells]
    · simp [Builtin.append_, run_underlying Try.underlying27, sizeOf, typeInfo, hi, Builtin.lenOf, Builtin.firstCells, hnc, storeCells]
  | some a =>
    have hcells : ∀ j u, (bv m)[j]? = some u → w.cell? (a.add j) = some u := by
      intro j u hu
      have hj : j < m.length := by
        have := (List.getElem?_eq_some_iff.1 hu).1
        rwa [bv_len] at this
      obtain ⟨b, o, e, hc⟩ := hr.2 j hj
      injection e with e
      subst e
      rw [addr_add, hc, ← bv_at m j hj, hu]
    obtain ⟨v', w', h1, h2, h3, _, h5⟩ := run_append_own_at (P := Try.prog) w base 27 ty 5 i0 (.int .u8 0) 1 1 Try.underlying27 hi hz0 hz1 hz2 rfl (by omega) v l.length (bv l) hown a m.length c (bv m) (by rw [bv_len, Nat.mul_one]) hcells (bv_one m)
      (by unfold maxLen; omega) (by omega) hbase
    exact ⟨v', w', h1, by unfold Mine; rw [List.length_append, bv_append]; exact h2, h3, h5⟩

/-- At the operation, for the walk. -/
theorem wpList_append_rd {ops : Array Oper} {rest : List Oper} {o : Oper} {a : Act} {w : World} {Q : Exit → Act → World → Prop} (hgd : o.guard = none) (s x : Operand)
    (ho : o.op = .call { callee := .builtin .append, args := #[s, x], argTypes := #[27, 27] })
    (base : Nat) (v : Value) (l m : List Nat) (hs : a.eval s = v) (hown : Mine w base v l) (A : Option Addr) (n c : Nat) (hx : a.eval x = .slice A n c) (hn : m.length = n) (hr : Rd w A m)
    (hlen : l.length + m.length ≤ 1099511627776) (hbase : base ≤ w.heap.size)
    (h : ∀ v' w', Mine w' base v' (l ++ m) → w.grownBy w' v.ownBlock → (v'.ownBlock = v.ownBlock ∨ v'.ownBlock = some w.heap.size) → wpList Try.prog ops Q rest (a.put o.dst v') w') :
    wpList Try.prog ops Q (o :: rest) a w := by
  subst hn
  refine wpList_plain hgd fun K hK => ?_
  obtain ⟨v', w', hrun, h2, h3, h4⟩ := run_append_rd w base o.type v l m hown A c hr hlen hbase
  unfold Oper.wp execOp
  simp only [ho, resolve, invoke, builtin, Sem.run_bind, Sem.run_pure, Result.andThen_ok, List.map_toArray, List.map_cons, List.map_nil, hs, hx, hrun]
  exact hK _ _ (h v' w' h2 h3 h4)

/-- A call that hands back a slice that reads as l; all else is as it was. -/
def Gives (l : List Nat) (w : World) (e : Ending) (w' : World) : Prop := ∃ B c, e = .returned (.slice B l.length c) ∧ l.length ≤ c ∧ Rd w' B l ∧ Ext w w'
theorem gives_of {w w' : World} {base : Nat} {v : Value} {l m : List Nat} (hm : Mine w' base v l) (hl : l = m) (hs : Sm m) (hx : Ext w w') : Gives m w (.returned v) w' := by
  subst hl
  obtain ⟨B, c, rfl, hc, hr⟩ := hm.slice hs
  exact ⟨B, c, rfl, hc, hr, hx⟩
theorem Rd.take {w : World} {A : Option Addr} {l : List Nat} (h : Rd w A l) (k : Nat) : Rd w A (l.take k) := by
  refine ⟨Pol.co_lt_of fun x hx => h.1.mem x (List.mem_of_mem_take hx), fun i hi => ?_⟩
  have hk : i < k ∧ i < l.length := by rw [List.length_take] at hi; omega
  obtain ⟨b, o, e, hc⟩ := h.2 i hk.2
  refine ⟨b, o, e, ?_⟩
  rw [hc]
  unfold co
  rw [List.getElem?_take, if_pos hk.1]
theorem mine_empty (w : World) : Mine (w.alloc (.cells #[] 5)) w.heap.size (.slice (some ⟨w.heap.size, 0, none⟩) 0 0) [] := World.ownsRow_lit w #[] 0 (Nat.le_refl _) (Nat.zero_le _) rfl
theorem rd_lit (w : World) (l : List Nat) (h : Sm l) : Rd (w.alloc (.cells (bv l).toArray 5)) (some ⟨w.heap.size, 0, none⟩) l :=
  ⟨h, fun i hi => ⟨w.heap.size, 0, rfl, by
    rw [cell_of_row _ _ _ _ _ _ (heap_alloc_new w _), Nat.zero_add]
    simpa using bv_at l i hi⟩⟩
theorem rd_lit_next (w : World) (o : Obj) (l : List Nat) (h : Sm l) : Rd ((w.alloc o).alloc (.cells (bv l).toArray 5)) (some ⟨w.heap.size + 1, 0, none⟩) l := by
  have := rd_lit (w.alloc o) l h
  rwa [show (w.alloc o).heap.size = w.heap.size + 1 from by simp] at this
theorem rd_one (w : World) (p : Nat) (hp : p < 256) : Rd (w.alloc (.cells #[.int .u8 (p : Int)] 5)) (some ⟨w.heap.size, 0, none⟩) [p] :=
  ⟨Sm.cons hp Sm.nil, fun i hi => ⟨w.heap.size, 0, rfl, by
    rw [cell_of_row _ _ _ _ _ _ (heap_alloc_new w _)]
    match i, hi with
    | 0, _ => simp [co]⟩⟩
theorem rd_two (w : World) (p q : Nat) (hp : p < 256) (hq : q < 256) : Rd (w.alloc (.cells #[.int .u8 (p : Int), .int .u8 (q : Int)] 5)) (some ⟨w.heap.size, 0, none⟩) [p, q] :=
  ⟨Sm.cons hp (Sm.cons hq Sm.nil), fun i hi => ⟨w.heap.size, 0, rfl, by
    rw [cell_of_row _ _ _ _ _ _ (heap_alloc_new w _)]
    match i, hi with
    | 0, _ => simp [co]
    | 1, _ => simp [co]⟩⟩
/-- A slice value that reads as l. -/
def Sl (w : World) (v : Value) (l : List Nat) : Prop := ∃ B c, v = .slice B l.length c ∧ l.length ≤ c ∧ Rd w B l
theorem Sl.ext {w w' : World} {v : Value} {l : List Nat} (h : Sl w v l) (hx : Ext w w') : Sl w' v l := by
  obtain ⟨B, c, rfl, hc, hr⟩ := h
  exact ⟨B, c, rfl, hc, hr.ext hx⟩
end Go.Proofs.Ytlncelfacfflhaa

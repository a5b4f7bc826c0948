/-
  Part 5 of the texts that the seat's proofs stand on; each part of it begins with its own sentence and conditions. Conditions: those that each theorem names.
-/
import Derived.Test.YtjifionpblpfoaaDoorOwnPack4
import Derived.ArgAppend
import Derived.Laws.CopyOwn
import Derived.Test.YtjifionpblpfoaaDoorProg
import Derived.StillTail
import Derived.Deep.Quiet
import Derived.Deep.QuietTactic
import Derived.BigQuiet
import Derived.KernelRfl

/-
  What the laws of layer 16 that encode, decode and name envelopes stand on, over any code. Conditions: those of EnvCd.
-/
namespace Go.Proofs.YtjifionpblpfoaaDoor
open Go.RowKit
open Pol (co Sm)

/-- An envelope's bytes, in bytes of the call's own, and the error's number. -/
def EncO (o : Ev) (w : World) (e : Ending) (w' : World) : Prop := ∃ v, e = .returned (.tuple #[v, .int .i64 ((o.chk : Nat) : Int)]) ∧ Mine w' w.heap.size v o.bytes ∧ Ext w w'
/-- The envelope of bytes, whose body is in bytes of the call's own, and the error's number. -/
def DecO (b : List Nat) (w : World) (e : Ending) (w' : World) : Prop :=
  ∃ v, e = .returned (.tuple #[.agg #[.int .i64 (dec16 b).2.s, .int .u64 (((dec16 b).2.n : Nat) : Int), .int .u64 (((dec16 b).2.f : Nat) : Int), .int .u64 (((dec16 b).2.x : Nat) : Int), v], .int .i64 (((dec16 b).1 : Nat) : Int)]) ∧ Mine w' w.heap.size v (dec16 b).2.b ∧ Ext w w'
structure EnvCd : Prop where
  enc : ∀ (s : Int) (n f x k c : Nat) (b : List Nat) (A : Option Addr) (w : World), b.length = k → k ≤ c → Rd w A b → k ≤ 65536 → n < 18446744073709551616 → f < 18446744073709551616 → x < 18446744073709551616 →
    Calls Tryd.prog 9 #[evv s n f x A k c] w (EncO ⟨s, n, f, x, b⟩ w)
  dec : ∀ (b : List Nat) (A : Option Addr) (n c : Nat) (w : World), b.length = n → n ≤ c → Rd w A b → n ≤ 65536 → Calls Tryd.prog 10 #[.slice A n c] w (DecO b w)
  id : ∀ (s : Int) (n f x k c : Nat) (b : List Nat) (A : Option Addr) (w : World), GL w → b.length = k → k ≤ c → Rd w A b → k ≤ 65536 → n < 18446744073709551616 → f < 18446744073709551616 → x < 18446744073709551616 →
    Calls Tryd.prog 16 #[evv s n f x A k c] w (DgS (idv sha ⟨s, n, f, x, b⟩) w)
theorem Ev.bytes_sm {o : Ev} (h : Sm o.b) : Sm o.bytes := by
  unfold Ev.bytes
  split
  · exact Ev.enc_sm h
  · exact Sm.nil
theorem Ev.bytes_ok {o : Ev} (h : o.ok) : o.bytes = o.enc := if_pos h
theorem Ev.bytes_no {o : Ev} (h : ¬ o.ok) : o.bytes = [] := if_neg h
theorem Ev.bytes_len {o : Ev} (h : o.Fit) : o.bytes.length ≤ 64 := by
  by_cases ho : o.ok
  · rw [Ev.bytes_ok ho]
    exact (Ev.enc_len ho h).2
  · rw [Ev.bytes_no ho]
    exact Nat.zero_le _
theorem dec16_fit {b : List Nat} (hs : Sm b) : (dec16 b).2.Fit ∧ (dec16 b).2.b.length ≤ 32 := by
  by_cases h : (dec16 b).1 = 0
  · obtain ⟨h1, _, h3⟩ := dec16_ok hs h
    exact ⟨h3, h1.2.2.2.2⟩
  · have hz : (dec16 b).2 = Ev.zero := by
      unfold dec16 at h ⊢
      cases h1 : rdE b with
      | er n => rfl
      | ok e rest =>
        rw [h1] at h
        dsimp only at h ⊢
        split
        · rfl
        · split
          · rfl
          · rename_i h2 h3
            rw [if_neg h2, if_neg h3] at h
            exact absurd rfl h
    rw [hz]
    exact ⟨⟨by decide, by decide, by decide, Sm.nil⟩, Nat.zero_le _⟩
theorem idv_32 (e : Ev) : (idv sha e).length = 32 := by
  unfold idv
  split
  · exact sha_len _
  · exact List.length_replicate
theorem idv_sm (e : Ev) : Sm (idv sha e) := by
  unfold idv
  split
  · exact sha_sm _
  · intro i
    unfold co
    rw [List.getElem?_replicate]
    split <;> decide
end Go.Proofs.YtjifionpblpfoaaDoor

/-
  Two orders: are they one? Two slices of bytes: are they alike? Conditions: no more than 2^20 bytes.
-/
namespace Go.Proofs.YtjifionpblpfoaaDoor
open Go.RowKit
open Pol (co Sm)

theorem same14 (l m : List Nat) (A B : Option Addr) (n n' ca cb : Nat) (w : World) (hn : l.length = n) (hn' : m.length = n') (ha : Rd w A l) (hb : Rd w B m) (hl : n ≤ 1048576) :
    Calls Tryd.prog 15 #[.slice A n ca, .slice B n' cb] w (Tells (.bool (decide (l = m))) w) := by
  subst hn hn'
  by_cases h : l = m
  · rw [decide_eq_true h]
    subst h
    exact same_tells l A B ca cb w ha hb hl
  · rw [decide_eq_false h]
    exact (same_no l m A B ca cb w ha hb hl h).mono fun _ _ h => h.tells
theorem Od.eq_iff {o p : Od} : o = p ↔ o.k = p.k ∧ o.t = p.t ∧ o.a = p.a ∧ o.m = p.m := by
  constructor
  · rintro rfl; exact ⟨rfl, rfl, rfl, rfl⟩
  · obtain ⟨k, t, a, m⟩ := o
    obtain ⟨k', t', a', m'⟩ := p
    rintro ⟨h1, h2, h3, h4⟩
    dsimp only at h1 h2 h3 h4
    subst h1 h2 h3 h4
    rfl
instance : DecidableEq Od := fun _ _ => decidable_of_iff _ Od.eq_iff.symm
end Go.Proofs.YtjifionpblpfoaaDoor

/-
  A load of a whole value that stays, in a walk by wp_region_stab. Conditions: those of stab_yes.
-/
namespace Go.Proofs.YtjifionpblpfoaaDoor
open Go

section
variable {P : Program} {C : World → Prop} {Q : Exit → Act → World → Prop}
theorem stab_load {F : Nat → Bool} {l : List Oper} {i : Nat} {o : Oper} {π : List (Nat × Bool)} {a : Act} {w : World} (ho : l[i]? = some o) (ty : TypeId) (x : Operand) (hop : o.op = .load ty x) (v : Value)
    (hw : Region.wanted o (yielded l.toArray a.tmps) = true) (hrun : ∀ W, C W → (Instr.loadAt ty (a.eval x)).run P W = .ok v W) (h : wpStab P l C F Q π (a.put o.dst v) w) : wpStab P l C F Q ((i, true) :: π) a w :=
  stab_yes ho (fun _ hK => ⟨hw, v, fun W hW => by simp only [execOp, hop, Sem.run_bind, hrun W hW, Result.andThen, Sem.run_pure], hK _ h⟩)
/-- An operation under a guard that is false. -/
theorem stab_no {F : Nat → Bool} {l : List Oper} {i : Nat} {o : Oper} {π : List (Nat × Bool)} {a : Act} {w : World} (ho : l[i]? = some o) (h : ∀ K : Act → Prop, (∀ a', wpStab P l C F Q π a' w → K a') → Region.wanted o (yielded l.toArray a.tmps) = false ∧ K (a.put o.dst undef)) : wpStab P l C F Q ((i, true) :: π) a w := by
  obtain ⟨h1, h2⟩ := h (fun a' => wpStab P l C F Q π a' w) (fun _ h => h)
  exact ⟨o, undef, ho, .inr (.inl ⟨h1, rfl⟩), h2⟩
end
end Go.Proofs.YtjifionpblpfoaaDoor

/-
  A whole envelope loaded. Conditions: none.
-/
namespace Go.Proofs.YtjifionpblpfoaaDoor
open Go.RowKit
open Pol (co Sm)

theorem load_ev16 {w : World} {g : Nat} {a b c d e : Value} {t : TypeId} {fr : Nat × Nat} (hg : w.heap[g]? = some (.cells #[a, b, c, d, e] t fr)) : (Instr.loadAt 25 (.pointer (some ⟨g, 0, none⟩))).run Tryd.prog w = .ok (.agg #[a, b, c, d, e]) w := by
  simp only [Instr.loadAt, Instr.sureAddr, Sem.run_bind, Sem.run_pure, Result.andThen]
  exact run_loadVar_row w g t _ _ fr _ hg Tryd.underlying25 rfl ev_in16
end Go.Proofs.YtjifionpblpfoaaDoor

/-
  A load of a whole array, under a guard. Conditions: none; no function is named here.
-/
namespace Go.Proofs.YtjifionpblpfoaaDoor
open Go.RowKit

theorem wpList_load_row_g {P : Program} {ops : Array Oper} {rest : List Oper} {o : Oper} {a : Act} {w : World} {Q : Exit → Act → World → Prop} (hgd : Region.wanted o (yielded ops a.tmps) = true) (ty : TypeId) (x : Operand) (ho : o.op = .load ty x)
    (g : Nat) (hx : a.eval x = .pointer (some ⟨g, 0, none⟩)) (t : TypeId) (cs : Array Value) (fr : Nat × Nat) (d : TypeDesc) (hg : w.heap[g]? = some (.cells cs t fr))
    (hu : P.underlying ty = some d) (hd : (match d with | .struct _ | .array _ _ => true | _ => false) = true) (hi : (P.info? ty).map (·.size) = some cs.size)
    (h : wpList P ops Q rest (a.put o.dst (.agg cs)) w) : wpList P ops Q (o :: rest) a w := by
  unfold wpList
  rw [if_pos hgd]
  exact .inl (wp_load_row ty x ho g hx t cs fr d hg hu hd hi h)
theorem wpIf_load_row {P : Program} {ops : Array Oper} {o : Oper} {a : Act} {w : World} {K : Act → World → Prop} {Q : Exit → Act → World → Prop} {E : Prop} (hgd : Region.wanted o (yielded ops a.tmps) = true) (ty : TypeId) (x : Operand) (ho : o.op = .load ty x)
    (g : Nat) (hx : a.eval x = .pointer (some ⟨g, 0, none⟩)) (t : TypeId) (cs : Array Value) (fr : Nat × Nat) (d : TypeDesc) (hg : w.heap[g]? = some (.cells cs t fr))
    (hu : P.underlying ty = some d) (hd : (match d with | .struct _ | .array _ _ => true | _ => false) = true) (hi : (P.info? ty).map (·.size) = some cs.size)
    (h : K (a.put o.dst (.agg cs)) w) : if Region.wanted o (yielded ops a.tmps) = true then Oper.wp P o a w K Q else E := by
  rw [if_pos hgd]
  exact wp_load_row ty x ho g hx t cs fr d hg hu hd hi h
end Go.Proofs.YtjifionpblpfoaaDoor

/-
  Bytes, and bytes of a call's own, where only some blocks have changed. Conditions: none; no function is named here.
-/
namespace Go.Proofs.YtjifionpblpfoaaDoor
open Go.RowKit
open Pol (co Sm)

theorem rd_only14 {X : Nat → Prop} {w w' : World} {A : Option Addr} {l : List Nat} (h : Rd w A l) (ho : Only X w w') (hne : ∀ b o, A = some ⟨b, o, none⟩ → 0 < l.length → ¬ X b) : Rd w' A l :=
  ⟨h.1, fun i hi => by
    obtain ⟨b, o, e, hc⟩ := h.2 i hi
    exact ⟨b, o, e, ho.cell hc (hne b o e (by omega))⟩⟩
theorem Mine.only {X : Nat → Prop} {w w' : World} {base : Nat} {v : Value} {l : List Nat} (h : Mine w base v l) (ho : Only X w w') (hne : ∀ q, v.ownBlock = some q → ¬ X q) : Mine w' base v l :=
  ⟨h.1, h.2.imp id (fun ⟨g, cap, cur, e, hb, hg, r⟩ => ⟨g, cap, cur, e, hb, ho.row hg (hne g (by rw [e]; rfl)), r⟩)⟩
theorem sm_put {l : List Nat} (h : Sm l) {x : Nat} (hx : x < 256) (i : Nat) : Sm (l.set i x) := fun j => by
  unfold co
  by_cases hij : i = j
  · subst hij
    by_cases hi : i < l.length
    · rw [List.getElem?_set_self hi]
      exact hx
    · rw [List.getElem?_eq_none (by simp; omega)]
      decide
  · rw [List.getElem?_set_ne hij]
    exact h j
end Go.Proofs.YtjifionpblpfoaaDoor

/-
  Appends of bytes to slices without room. Conditions: lengths up to 2^40.
-/
namespace Go.Proofs.YtjifionpblpfoaaDoor
open Go.RowKit
open Pol (co Sm)

set_option maxRecDepth 100000 in
/-- An append to a slice without room. -/
theorem run_append_full9 (w : World) (ty : TypeId) (b o n c : Nat) (l m : List Nat) (hn : l.length = n) (hr : Rd w (some ⟨b, o, none⟩) l) (a : Addr) (hm : Rd w (some a) m) (h0 : 0 < m.length) (hlen : l.length + m.length ≤ 1099511627776) :
    ∃ v' w', (Builtin.append_ #[23, 23] ty #[.slice (some ⟨b, o, none⟩) n n, .slice (some a) m.length c]).run Tryd.prog w = .ok v' w' ∧ Mine w' w.heap.size v' (l ++ m) ∧ Ext w w' := by
  subst hn
  obtain ⟨i0, hi, hz0, hz1, hz2⟩ := info_parts u8_info
  have hcells : ∀ (L : List Nat) (A : Addr), Rd w (some A) L → ∀ j u, (bv L)[j]? = some u → w.cell? (A.add j) = some u := fun L A h j u hu => by
    have hj : j < L.length := by
      have := (List.getElem?_eq_some_iff.1 hu).1
      rwa [bv_len] at this
    obtain ⟨b, o, e, hc⟩ := h.2 j hj
    injection e with e
    subst e
    rw [addr_add, hc, ← bv_at L j hj, hu]
  obtain ⟨v', w', h1, h2, h3⟩ := run_append_arg_grows (P := Tryd.prog) w 23 ty 5 i0 (.int .u8 0) 1 1 Tryd.underlying23 hi hz0 hz1 hz2 rfl (by omega) ⟨b, o, none⟩ l.length l.length (bv l) (by rw [bv_len, Nat.mul_one]) (hcells l _ hr)
    a m.length c (bv m) (by rw [bv_len, Nat.mul_one]) (hcells m _ hm) (by omega) (by unfold maxLen; omega) (by omega)
  exact ⟨v', w', h1, by unfold Mine; rw [List.length_append, bv_append]; exact h2, (Ext.refl w).more h3 (fun k e => by cases e)⟩
theorem wpList_append_full9 {ops : Array Oper} {rest : List Oper} {op : Oper} {a : Act} {w : World} {Q : Exit → Act → World → Prop} (hgd : op.guard = none) (s x : Operand)
    (ho : op.op = .call { callee := .builtin .append, args := #[s, x], argTypes := #[23, 23] })
    (b o n : Nat) (l m : List Nat) (hs : a.eval s = .slice (some ⟨b, o, none⟩) n n) (hn : l.length = n) (hr : Rd w (some ⟨b, o, none⟩) l) (A : Addr) (c k : Nat) (hx : a.eval x = .slice (some A) k c) (hk : m.length = k) (hm : Rd w (some A) m) (h0 : 0 < m.length)
    (hlen : l.length + m.length ≤ 1099511627776)
    (h : ∀ v' w', Mine w' w.heap.size v' (l ++ m) → Ext w w' → wpList Tryd.prog ops Q rest (a.put op.dst v') w') : wpList Tryd.prog ops Q (op :: rest) a w := by
  subst hk
  refine wpList_plain hgd fun K hK => ?_
  obtain ⟨v', w', hrun, h2, h3⟩ := run_append_full9 w op.type b o n c l m hn hr A hm h0 hlen
  unfold Oper.wp execOp
  simp only [ho, resolve, invoke, builtin, Sem.run_bind, Sem.run_pure, Result.andThen_ok, List.map_toArray, List.map_cons, List.map_nil, hs, hx, hrun]
  exact hK _ _ (h v' w' h2 h3)
set_option maxRecDepth 100000 in
/-- An append to a literal of no bytes: what was there stays. -/
theorem run_append_new (w : World) (base : Nat) (ty : TypeId) (g : Nat) (m : List Nat) (hown : Mine w base (.slice (some ⟨g, 0, none⟩) 0 0) []) (A : Option Addr) (c : Nat) (hr : Rd w A m) (hlen : m.length ≤ 1099511627776) (hbase : base ≤ w.heap.size) :
    ∃ v' w', (Builtin.append_ #[23, 23] ty #[.slice (some ⟨g, 0, none⟩) 0 0, .slice A m.length c]).run Tryd.prog w = .ok v' w' ∧ Mine w' base v' m ∧ Ext w w' ∧ ∀ q, v'.ownBlock = some q → q = g ∨ w.heap.size ≤ q := by
  rcases Nat.eq_zero_or_pos m.length with h0 | h0
  · have : m = [] := List.eq_nil_of_length_eq_zero h0
    subst this
    obtain ⟨i0, hi, hz0, hz1, hz2⟩ := info_parts u8_info
    refine ⟨_, w, ?_, hown, Ext.refl _, fun q hq => .inl (by injection hq with hq; exact hq.symm)⟩
    cases A <;> simp [Builtin.append_, run_underlying Tryd.underlying23, sizeOf, typeInfo, hi, Builtin.lenOf, Builtin.firstCells, storeCells, loadCells, loadCellsFrom]
  · obtain ⟨b, o, rfl, _⟩ := hr.addr h0
    obtain ⟨v', w', h1, h2, h3⟩ := run_append_full9 w ty g 0 0 c [] m rfl (Rd.nil _ _) ⟨b, o, none⟩ hr h0 (by simpa using hlen)
    exact ⟨v', w', h1, (by simpa using h2.down hbase), h3, fun q hq => .inr (h2.block q hq).1⟩
theorem wpList_append_new {ops : Array Oper} {rest : List Oper} {op : Oper} {a : Act} {w : World} {Q : Exit → Act → World → Prop} (hgd : op.guard = none) (s x : Operand)
    (ho : op.op = .call { callee := .builtin .append, args := #[s, x], argTypes := #[23, 23] })
    (base g : Nat) (m : List Nat) (hs : a.eval s = .slice (some ⟨g, 0, none⟩) 0 0) (hown : Mine w base (.slice (some ⟨g, 0, none⟩) 0 0) []) (A : Option Addr) (n c : Nat) (hx : a.eval x = .slice A n c) (hn : m.length = n) (hr : Rd w A m)
    (hlen : m.length ≤ 1099511627776) (hbase : base ≤ w.heap.size)
    (h : ∀ v' w', Mine w' base v' m → Ext w w' → (∀ q, v'.ownBlock = some q → q = g ∨ w.heap.size ≤ q) → wpList Tryd.prog ops Q rest (a.put op.dst v') w') : wpList Tryd.prog ops Q (op :: rest) a w := by
  subst hn
  refine wpList_plain hgd fun K hK => ?_
  obtain ⟨v', w', hrun, h2, h3, h4⟩ := run_append_new w base op.type g m hown A c hr hlen hbase
  unfold Oper.wp execOp
  simp only [ho, resolve, invoke, builtin, Sem.run_bind, Sem.run_pure, Result.andThen_ok, List.map_toArray, List.map_cons, List.map_nil, hs, hx, hrun]
  exact hK _ _ (h v' w' h2 h3 h4)
end Go.Proofs.YtjifionpblpfoaaDoor

/-
  CRC-32 in plain numbers, bit by bit; that it is linear; that some bits turned within thirty-two change it. Frames. Conditions: none; no function is named here.
-/
namespace Go.Proofs.YtjifionpblpfoaaDoor
open Go.RowKit
open Pol (co Sm)

/-- One bit of CRC-32. -/
def crz (c : Nat) : Nat := if c % 2 = 0 then c / 2 else (c / 2) ^^^ 3988292384
def czn : Nat → Nat → Nat
  | 0, c => c
  | k + 1, c => czn k (crz c)
theorem xor_half (a b : Nat) : (a ^^^ b) / 2 = a / 2 ^^^ b / 2 := by
  have := Nat.xor_div_two_pow (a := a) (b := b) (n := 1)
  simpa using this
theorem xor_two (a b : Nat) : (a ^^^ b) % 2 = (a + b) % 2 := by
  have h := @Nat.xor_mod_two_eq_one a b
  by_cases h1 : a % 2 = 1 <;> by_cases h2 : b % 2 = 1 <;> by_cases h3 : (a ^^^ b) % 2 = 1 <;> simp only [h1, h2, h3, iff_true, iff_false, not_true_eq_false, not_false_eq_true] at h <;> omega
theorem xor_left (a b c : Nat) : a ^^^ (b ^^^ c) = b ^^^ (a ^^^ c) := by rw [← Nat.xor_assoc, Nat.xor_comm a, Nat.xor_assoc]
theorem crz_lin (a b : Nat) : crz (a ^^^ b) = crz a ^^^ crz b := by
  unfold crz
  rw [xor_half, xor_two]
  rcases Nat.mod_two_eq_zero_or_one a with h | h <;> rcases Nat.mod_two_eq_zero_or_one b with h' | h'
  · rw [if_pos (by omega), if_pos h, if_pos h']
  · rw [if_neg (by omega), if_pos h, if_neg (by omega), Nat.xor_assoc]
  · rw [if_neg (by omega), if_neg (by omega), if_pos h', Nat.xor_assoc, Nat.xor_assoc, Nat.xor_comm 3988292384]
  · rw [if_pos (by omega), if_neg (by omega), if_neg (by omega)]
    rw [Nat.xor_assoc, Nat.xor_comm (b / 2), ← Nat.xor_assoc 3988292384, Nat.xor_self, Nat.zero_xor]
theorem crz_lt {c : Nat} (h : c < 2 ^ 32) : crz c < 2 ^ 32 := by
  unfold crz
  split
  · omega
  · exact Nat.xor_lt_two_pow (by omega) (by decide)
theorem crz_ne {c : Nat} (h : c < 2 ^ 32) (h0 : c ≠ 0) : crz c ≠ 0 := by
  unfold crz
  split
  · omega
  · intro e
    have e2 : c / 2 = 3988292384 := by
      have := congrArg (· ^^^ 3988292384) e
      simpa [Nat.xor_assoc] using this
    omega
theorem crz_even (m : Nat) : crz (2 * m) = m := by
  unfold crz
  rw [if_pos (by omega)]
  omega
theorem czn_lin : ∀ (k a b : Nat), czn k (a ^^^ b) = czn k a ^^^ czn k b
  | 0, _, _ => rfl
  | k + 1, a, b => by rw [czn, czn, czn, crz_lin, czn_lin k]
theorem czn_lt : ∀ (k : Nat) {c : Nat}, c < 2 ^ 32 → czn k c < 2 ^ 32
  | 0, _, h => h
  | k + 1, _, h => czn_lt k (crz_lt h)
theorem czn_ne : ∀ (k : Nat) {c : Nat}, c < 2 ^ 32 → c ≠ 0 → czn k c ≠ 0
  | 0, _, _, h => h
  | k + 1, _, h, h0 => czn_ne k (crz_lt h) (crz_ne h h0)
theorem czn_zero : ∀ k, czn k 0 = 0
  | 0 => rfl
  | k + 1 => czn_zero k
theorem czn_add : ∀ (i j c : Nat), czn (i + j) c = czn j (czn i c)
  | 0, j, c => by rw [Nat.zero_add]; rfl
  | i + 1, j, c => by rw [Nat.succ_add, czn, czn, czn_add i]
theorem czn_succ (k c : Nat) : czn (k + 1) c = crz (czn k c) := by rw [czn_add k 1]; rfl
theorem czn_pow : ∀ (k m : Nat), czn k (2 ^ k * m) = m
  | 0, m => by rw [Nat.pow_zero, Nat.one_mul]; rfl
  | k + 1, m => by rw [Nat.pow_succ, czn, Nat.mul_comm _ 2, Nat.mul_assoc, crz_even, czn_pow k]
/-- One more bit of a byte. -/
theorem add_xor (k a r : Nat) (h : r < 2 ^ k) : 2 ^ k * a + r = 2 ^ k * a ^^^ r := by
  apply Nat.eq_of_testBit_eq
  intro j
  rw [Nat.testBit_two_pow_mul_add a h, Nat.testBit_xor, Nat.testBit_two_pow_mul]
  by_cases hj : j < k
  · rw [if_pos hj]; simp [Nat.not_le.2 hj]
  · rw [if_neg hj, Nat.testBit_lt_two_pow (Nat.lt_of_lt_of_le h (Nat.pow_le_pow_right (by omega) (Nat.not_lt.1 hj)))]; simp [Nat.not_lt.1 hj]
theorem mod_step (b k : Nat) : b % 2 ^ (k + 1) = (b % 2 ^ k) ^^^ (2 ^ k * (b / 2 ^ k % 2)) := by
  rw [Nat.pow_succ, Nat.mod_mul, Nat.xor_comm, ← add_xor _ _ _ (Nat.mod_lt _ (Nat.two_pow_pos k)), Nat.add_comm]
/-- The state behind k bits of a byte. -/
def crk (c b : Nat) : Nat → Nat
  | 0 => c
  | k + 1 => crz (crk c b k ^^^ (b / 2 ^ k % 2))
theorem crk_eq (c b : Nat) : ∀ k, crk c b k = czn k (c ^^^ b % 2 ^ k)
  | 0 => by rw [Nat.pow_zero, Nat.mod_one, Nat.xor_zero]; rfl
  | k + 1 => by
    rw [crk, crk_eq c b k, czn_succ, mod_step, ← Nat.xor_assoc, czn_lin k (c ^^^ b % 2 ^ k) (2 ^ k * _), czn_pow]
/-- By a table of two hundred and fifty-six. -/
theorem czn_table (c b : Nat) (hb : b < 256) : czn 8 (c ^^^ b) = czn 8 ((c ^^^ b) % 256) ^^^ (c / 256) := by
  have h1 : (c ^^^ b) / 256 = c / 256 := by
    have h := Nat.xor_div_two_pow (a := c) (b := b) (n := 8)
    rw [show (2 : Nat) ^ 8 = 256 from rfl, show b / 256 = 0 by omega, Nat.xor_zero] at h
    exact h
  have h2 : c ^^^ b = 2 ^ 8 * ((c ^^^ b) / 256) ^^^ (c ^^^ b) % 256 := by
    rw [← add_xor 8 _ _ (Nat.mod_lt _ (by decide)), show (2 : Nat) ^ 8 = 256 from rfl]
    omega
  conv => lhs; rw [h2]
  rw [czn_lin, czn_pow, h1, Nat.xor_comm]
/-- The state behind n bytes. -/
def crf (c : Nat) (f : Nat → Nat) : Nat → Nat
  | 0 => c
  | n + 1 => czn 8 (crf c f n ^^^ f n)
theorem crf_congr {c : Nat} {f g : Nat → Nat} : ∀ n, (∀ i, i < n → f i = g i) → crf c f n = crf c g n
  | 0, _ => rfl
  | n + 1, h => by rw [crf, crf, crf_congr n (fun i hi => h i (by omega)), h n (by omega)]
theorem crf_lin (c d : Nat) (f g : Nat → Nat) : ∀ n, crf (c ^^^ d) (fun i => f i ^^^ g i) n = crf c f n ^^^ crf d g n
  | 0 => rfl
  | n + 1 => by
    rw [crf, crf, crf, crf_lin c d f g n, ← czn_lin]
    congr 1
    rw [Nat.xor_assoc, Nat.xor_assoc, xor_left (crf d g n)]
theorem crf_lt {c : Nat} {f : Nat → Nat} (h : c < 2 ^ 32) (hf : ∀ i, f i < 256) : ∀ n, crf c f n < 2 ^ 32
  | 0 => h
  | n + 1 => czn_lt 8 (Nat.xor_lt_two_pow (crf_lt h hf n) (Nat.lt_of_lt_of_le (hf n) (by decide)))
theorem crf_add (c : Nat) (f : Nat → Nat) (m : Nat) : ∀ n, crf c f (m + n) = crf (crf c f m) (fun i => f (m + i)) n
  | 0 => rfl
  | n + 1 => by rw [← Nat.add_assoc, crf, crf, crf_add c f m n]
theorem crf_zeros (c : Nat) : ∀ n, crf c (fun _ => 0) n = czn (8 * n) c
  | 0 => rfl
  | n + 1 => by rw [crf, crf_zeros c n, Nat.xor_zero, Nat.mul_succ, czn_add]
/-- One bit alone, at place k of n bytes. -/
theorem crf_one (n k : Nat) (hk : k < 8 * n) : crf 0 (fun i => if i = k / 8 then 2 ^ (k % 8) else 0) n = czn (8 * n - k) 1 := by
  obtain ⟨r, hr⟩ : ∃ r, n = k / 8 + (1 + r) := ⟨n - k / 8 - 1, by omega⟩
  have h0 : crf 0 (fun i => if i = k / 8 then 2 ^ (k % 8) else 0) (k / 8) = 0 := by
    rw [crf_congr (g := fun _ => 0) (k / 8) (fun i hi => if_neg (by omega)), crf_zeros, czn_zero]
  have h2 : ∀ c, crf c (fun i => (if k / 8 + (1 + i) = k / 8 then 2 ^ (k % 8) else 0)) r = czn (8 * r) c := fun c => by
    rw [crf_congr (g := fun _ => 0) r (fun i hi => if_neg (by omega)), crf_zeros]
  rw [hr, crf_add, h0, crf_add]
  have h1 : crf 0 (fun i => if k / 8 + i = k / 8 then 2 ^ (k % 8) else 0) 1 = czn (8 - k % 8) 1 := by
    rw [crf, crf, if_pos (by omega), Nat.zero_xor]
    have e : 8 = k % 8 + (8 - k % 8) := by omega
    rw [show czn 8 (2 ^ (k % 8)) = czn (k % 8 + (8 - k % 8)) (2 ^ (k % 8) * 1) from by rw [← e, Nat.mul_one], czn_add, czn_pow]
  rw [h1, h2, ← czn_add]
  congr 1
  omega
/-- Some of thirty-two bits side by side, from place s on. -/
def dm (s v : Nat) : Nat → Nat → Nat
  | 0, _ => 0
  | i + 1, j => dm s v i j ^^^ (if v / 2 ^ i % 2 = 1 ∧ j = (s + i) / 8 then 2 ^ ((s + i) % 8) else 0)
theorem crf_dm (s v n : Nat) : ∀ i, s + i ≤ 8 * n → crf 0 (dm s v i) n = czn (8 * n - s) (v % 2 ^ i)
  | 0, _ => by
    rw [show dm s v 0 = (fun _ => 0) from rfl, crf_zeros, czn_zero, Nat.pow_zero, Nat.mod_one, czn_zero]
  | i + 1, h => by
    have e := crf_lin 0 0 (dm s v i) (fun j => if v / 2 ^ i % 2 = 1 ∧ j = (s + i) / 8 then 2 ^ ((s + i) % 8) else 0) n
    rw [Nat.xor_self] at e
    rw [show dm s v (i + 1) = (fun j => dm s v i j ^^^ (if v / 2 ^ i % 2 = 1 ∧ j = (s + i) / 8 then 2 ^ ((s + i) % 8) else 0)) from rfl, e, crf_dm s v n i (by omega), mod_step, czn_lin]
    congr 1
    rcases Nat.mod_two_eq_zero_or_one (v / 2 ^ i) with hb | hb
    · rw [hb, Nat.mul_zero, czn_zero, crf_congr (g := fun _ => 0) _ (fun _ _ => if_neg (by omega)), crf_zeros, czn_zero]
    · rw [hb, crf_congr (g := fun j => if j = (s + i) / 8 then 2 ^ ((s + i) % 8) else 0) _ (fun j _ => by by_cases hj : j = (s + i) / 8 <;> simp [hj]), crf_one n (s + i) (by omega)]
      rw [show 8 * n - s = i + (8 * n - (s + i)) by omega, czn_add, czn_pow]
theorem crf_burst (s v n : Nat) (hv : v < 2 ^ 32) (h0 : v ≠ 0) (h : s + 32 ≤ 8 * n) : crf 0 (dm s v 32) n ≠ 0 := by
  rw [crf_dm s v n 32 h, Nat.mod_eq_of_lt hv]
  exact czn_ne _ hv h0

/-! ### The checksum of bytes, and frames -/
def crcl (l : List Nat) : Nat := crf 4294967295 (co l) l.length ^^^ 4294967295
theorem crcl_lt {l : List Nat} (h : Sm l) : crcl l < 4294967296 := Nat.xor_lt_two_pow (n := 32) (crf_lt (by decide) h _) (by decide)
def cbs (c : Nat) : List Nat := [c / 16777216, c / 65536 % 256, c / 256 % 256, c % 256]
theorem cbs_inj {c d : Nat} (h : cbs c = cbs d) : c = d := by
  unfold cbs at h
  simp only [List.cons.injEq] at h
  omega
theorem cbs_sm {c : Nat} (h : c < 4294967296) : Sm (cbs c) := Sm.cons (by omega) (Sm.cons (by omega) (Sm.cons (by omega) (Sm.cons (by omega) Sm.nil)))
theorem cbs_len (c : Nat) : (cbs c).length = 4 := rfl
/-- A frame; what is read of bytes as one. -/
def fr (t : List Nat) : List Nat := t.length / 256 :: t.length % 256 :: (cbs (crcl t) ++ t)
theorem fr_len (t : List Nat) : (fr t).length = 6 + t.length := by
  unfold fr
  simp only [List.length_cons, List.length_append, cbs_len]
  omega
def FrOk (t : List Nat) : Prop := 1 ≤ t.length ∧ t.length ≤ 1000
def nx (b : List Nat) : Rs (List Nat) :=
  if b.length < 2 then .er 2
  else if co b 0 * 256 + co b 1 < 1 ∨ 1000 < co b 0 * 256 + co b 1 then .er 14
  else if b.length < 6 + (co b 0 * 256 + co b 1) then .er 2
  else if (b.drop 2).take 4 = cbs (crcl ((b.drop 6).take (co b 0 * 256 + co b 1))) then .ok ((b.drop 6).take (co b 0 * 256 + co b 1)) (b.drop (6 + (co b 0 * 256 + co b 1)))
  else .er 4
theorem co_hd (a : Nat) (l : List Nat) : co (a :: l) 0 = a := rfl
theorem co_tl (a b : Nat) (l : List Nat) : co (a :: b :: l) 1 = b := rfl
theorem len_two (n : Nat) : n / 256 * 256 + n % 256 = n := by omega
theorem nx_parts (a b : Nat) (s t r : List Nat) (hs : s.length = 4) (hn : a * 256 + b = t.length) (ht : FrOk t) : nx (a :: b :: (s ++ (t ++ r))) = if s = cbs (crcl t) then .ok t r else .er 4 := by
  have e1 : (a :: b :: (s ++ (t ++ r))).drop 2 = s ++ (t ++ r) := rfl
  have e2 : (a :: b :: (s ++ (t ++ r))).drop 6 = t ++ r := by
    show (s ++ (t ++ r)).drop 4 = _
    rw [← hs, List.drop_left]
  have e3 : (a :: b :: (s ++ (t ++ r))).drop (6 + t.length) = r := by rw [← List.drop_drop, e2, List.drop_left]
  have e4 : (s ++ (t ++ r)).take 4 = s := by rw [← hs, List.take_left]
  unfold nx
  rw [co_hd, co_tl, hn, if_neg (by simp), if_neg (by unfold FrOk at ht; omega), if_neg (by simp [hs]; omega), e1, e2, e3, e4, List.take_left]
theorem nx_fr (t r : List Nat) (ht : FrOk t) : nx (fr t ++ r) = .ok t r := by
  have h := nx_parts (t.length / 256) (t.length % 256) (cbs (crcl t)) t r (cbs_len _) (len_two _) ht
  rw [if_pos rfl] at h
  rw [← h]
  unfold fr
  simp only [List.cons_append, List.append_assoc]
theorem nx_bad (t u : List Nat) (ht : FrOk t) (hl : u.length = t.length) (hc : crcl u ≠ crcl t) : nx ((fr t).take 6 ++ u) = .er 4 := by
  have h := nx_parts (t.length / 256) (t.length % 256) (cbs (crcl t)) u [] (cbs_len _) ((len_two _).trans hl.symm) (by unfold FrOk at *; omega)
  rw [if_neg (fun e => hc (cbs_inj e).symm), List.append_nil] at h
  rw [← h]
  have e : (fr t).take 6 = t.length / 256 :: t.length % 256 :: cbs (crcl t) := by
    unfold fr
    show t.length / 256 :: t.length % 256 :: (cbs (crcl t) ++ t).take 4 = _
    rw [show (cbs (crcl t) ++ t).take 4 = cbs (crcl t) from by rw [← cbs_len (crcl t), List.take_left]]
  rw [e]
  rfl
theorem nx_cut (t : List Nat) (k : Nat) (ht : FrOk t) (hk : k < (fr t).length) : nx ((fr t).take k) = .er 2 := by
  have hl : ((fr t).take k).length = k := by rw [List.length_take]; omega
  rw [fr_len] at hk
  unfold nx
  rw [hl]
  by_cases h2 : k < 2
  · rw [if_pos h2]
  · have e0 : co ((fr t).take k) 0 = t.length / 256 := by
      unfold co; rw [List.getElem?_take, if_pos (by omega)]; rfl
    have e1 : co ((fr t).take k) 1 = t.length % 256 := by
      unfold co; rw [List.getElem?_take, if_pos (by omega)]; rfl
    rw [if_neg h2, e0, e1, len_two, if_neg (by unfold FrOk at ht; omega), if_pos hk]
theorem nx_ok {b t r : List Nat} (hs : Sm b) (h : nx b = .ok t r) : b = fr t ++ r ∧ FrOk t := by
  match b, hs, h with
  | [], _, h => exact absurd h (by unfold nx; simp)
  | [_], _, h => exact absurd h (by unfold nx; simp)
  | x :: y :: l, hs, h =>
    unfold nx at h
    rw [co_hd, co_tl] at h
    generalize hn : x * 256 + y = n at h
    split at h
    · cases h
    · split at h
      · cases h
      · split at h
        · cases h
        · split at h
          · rename_i h1 h2 h3 h4
            injection h with ht hr
            have hx : x < 256 := sm_head hs
            have hy : y < 256 := sm_head (sm_tail hs)
            have hll : n + 4 ≤ l.length := by simp only [List.length_cons] at h3; omega
            have d6 : (x :: y :: l).drop 6 = l.drop 4 := rfl
            have d2 : (x :: y :: l).drop 2 = l := rfl
            have htl : t.length = n := by rw [← ht, d6, List.length_take, List.length_drop]; omega
            refine ⟨?_, by unfold FrOk; omega⟩
            rw [ht, d2] at h4
            have hr' : r = (l.drop 4).drop n := by rw [← hr, ← List.drop_drop, d6]
            have ht' : t = (l.drop 4).take n := by rw [← ht, d6]
            unfold fr
            rw [htl, show n / 256 = x by omega, show n % 256 = y by omega]
            simp only [List.cons_append, List.append_assoc]
            rw [← h4, hr']
            conv => rhs; rw [show t ++ (l.drop 4).drop n = l.drop 4 from by rw [ht', List.take_append_drop]]
            rw [List.take_append_drop]
          · cases h
theorem nx_less {b t r : List Nat} (h : nx b = .ok t r) : r.length < b.length := by
  unfold nx at h
  split at h
  · cases h
  · split at h
    · cases h
    · split at h
      · cases h
      · split at h
        · injection h with _ hr
          rw [← hr, List.length_drop]
          omega
        · cases h
theorem nx_er {b : List Nat} {e : Nat} (h : nx b = .er e) : 0 < e ∧ e < 17 := by
  unfold nx at h
  repeat' split at h
  all_goals first | (injection h with h; omega) | cases h
/-- All frames that are whole, and how many bytes they take. -/
def al (b : List Nat) : List (List Nat) × Nat :=
  match h : nx b with
  | .ok t r => (t :: (al r).1, 6 + t.length + (al r).2)
  | .er _ => ([], 0)
termination_by b.length
decreasing_by all_goals exact nx_less h
theorem al_ok {b t r : List Nat} (h : nx b = .ok t r) : al b = (t :: (al r).1, 6 + t.length + (al r).2) := by
  rw [al]
  split
  · rename_i t' r' h'
    rw [h] at h'
    injection h' with e1 e2
    subst e1; subst e2
    rfl
  · rename_i e h'
    rw [h] at h'
    cases h'
theorem al_er {b : List Nat} {e : Nat} (h : nx b = .er e) : al b = ([], 0) := by
  rw [al]
  split
  · rename_i t' r' h'
    rw [h] at h'
    cases h'
  · rfl
/-- Frames one behind the other. -/
def fl (ls : List (List Nat)) : List Nat := (ls.map fr).flatten
theorem fl_cons (t : List Nat) (ls : List (List Nat)) : fl (t :: ls) = fr t ++ fl ls := rfl
theorem fl_app (a b : List (List Nat)) : fl (a ++ b) = fl a ++ fl b := by unfold fl; rw [List.map_append, List.flatten_append]
theorem al_flat (b : List Nat) (hs : Sm b) : fl (al b).1 = b.take (al b).2 ∧ (al b).2 ≤ b.length ∧ (∀ t ∈ (al b).1, FrOk t ∧ Sm t) := by
  induction hn : b.length using Nat.strongRecOn generalizing b with
  | _ n ih =>
    subst hn
    cases h : nx b with
    | er e =>
      rw [al_er h]
      exact ⟨by rw [List.take_zero]; rfl, Nat.zero_le _, fun t ht => by cases ht⟩
    | ok t r =>
      obtain ⟨hb, ht⟩ := nx_ok hs h
      have hsp : Sm (fr t) ∧ Sm r := by
        rw [hb] at hs
        exact ⟨Pol.co_lt_of fun z hz => hs.mem z (List.mem_append.2 (.inl hz)), Pol.co_lt_of fun z hz => hs.mem z (List.mem_append.2 (.inr hz))⟩
      obtain ⟨i1, i2, i3⟩ := ih r.length (nx_less h) r hsp.2 rfl
      rw [al_ok h]
      refine ⟨?_, ?_, ?_⟩
      · rw [fl_cons, i1, hb, ← fr_len, List.take_length_add_append]
      · rw [hb, List.length_append, fr_len]
        show 6 + t.length + (al r).2 ≤ _
        omega
      · intro u hu
        rcases List.mem_cons.1 hu with rfl | hu
        · refine ⟨ht, Pol.co_lt_of fun z hz => hsp.1.mem z ?_⟩
          unfold fr
          simp [hz]
        · exact i3 u hu
theorem al_frames (r : List Nat) (e : Nat) (he : nx r = .er e) : ∀ ls : List (List Nat), (∀ t ∈ ls, FrOk t) → al (fl ls ++ r) = (ls, (fl ls).length)
  | [], _ => by
    show al r = _
    rw [al_er he]
    rfl
  | t :: ls, h => by
    have ih := al_frames r e he ls (fun u hu => h u (List.mem_cons.2 (.inr hu)))
    rw [fl_cons, List.append_assoc, al_ok (nx_fr t (fl ls ++ r) (h t (List.mem_cons.2 (.inl rfl)))), ih, List.length_append, fr_len]
theorem al_cut (ls : List (List Nat)) (hf : ∀ t ∈ ls, FrOk t) (k m : Nat) (h1 : (fl (ls.take m)).length ≤ k) (h2 : m < ls.length → k < (fl (ls.take (m + 1))).length) :
    al ((fl ls).take k) = (ls.take m, (fl (ls.take m)).length) := by
  have e : fl ls = fl (ls.take m) ++ fl (ls.drop m) := by rw [← fl_app, List.take_append_drop]
  obtain ⟨j, hj⟩ : ∃ j, k = (fl (ls.take m)).length + j := ⟨k - (fl (ls.take m)).length, by omega⟩
  rw [e, hj, List.take_length_add_append]
  refine al_frames _ 2 ?_ (ls.take m) (fun t ht => hf t (List.mem_of_mem_take ht))
  rcases Nat.lt_or_ge m ls.length with h | h
  · have hd : ls.drop m = ls[m] :: ls.drop (m + 1) := List.drop_eq_getElem_cons h
    have ht : ls.take (m + 1) = ls.take m ++ [ls[m]] := by rw [List.take_succ_eq_append_getElem h]
    have h3 := h2 h
    rw [ht, fl_app, List.length_append, hj] at h3
    have h4 : (fl [ls[m]]).length = (fr ls[m]).length := by unfold fl; simp
    rw [hd, fl_cons, List.take_append_of_le_length (by omega)]
    exact nx_cut _ j (hf _ (List.getElem_mem h)) (by omega)
  · rw [List.drop_eq_nil_of_le h]
    show nx (([] : List Nat).take j) = _
    rw [List.take_nil]
    unfold nx
    simp
end Go.Proofs.YtjifionpblpfoaaDoor

/-
  A journal in plain lists: what a crash leaves; that the frames behind a crash are the first ones. Conditions: none; no function is named here.
-/
namespace Go.Proofs.YtjifionpblpfoaaDoor
open Go.RowKit
open Pol (co Sm)

theorem co12_left (a b : List Nat) (i : Nat) (h : i < a.length) : co (a ++ b) i = co a i := by unfold co; rw [List.getElem?_append_left h]
theorem co12_right (a b : List Nat) (i : Nat) (h : a.length ≤ i) : co (a ++ b) i = co b (i - a.length) := by unfold co; rw [List.getElem?_append_right h]
theorem co12_take (l : List Nat) (n i : Nat) (h : i < n) : co (l.take n) i = co l i := by unfold co; rw [List.getElem?_take, if_pos h]
theorem take12_succ (l : List Nat) (n : Nat) (h : n < l.length) : l.take (n + 1) = l.take n ++ [co l n] := by
  rw [List.take_succ_eq_append_getElem h]
  congr 2
  unfold co
  rw [List.getElem?_eq_getElem h]
  rfl
theorem sm12_app {a b : List Nat} (ha : Sm a) (hb : Sm b) : Sm (a ++ b) := Pol.co_lt_of fun z hz => by
  rcases List.mem_append.1 hz with h | h
  · exact ha.mem z h
  · exact hb.mem z h
theorem sm12_take {l : List Nat} (h : Sm l) (n : Nat) : Sm (l.take n) := Pol.co_lt_of fun x hx => h.mem x (List.mem_of_mem_take hx)

/-- The checksum sees the last byte. -/
theorem crc12_last (u : List Nat) (x y : Nat) (hx : x < 256) (hy : y < 256) (hne : x ≠ y) : crcl (u ++ [x]) ≠ crcl (u ++ [y]) := by
  have key : ∀ z, crf 4294967295 (co (u ++ [z])) (u ++ [z]).length = czn 8 (crf 4294967295 (co u) u.length ^^^ z) := fun z => by
    rw [List.length_append, List.length_singleton, crf, crf_congr (g := co u) u.length (fun i hi => co12_left u [z] i hi), co12_right u [z] _ (Nat.le_refl _), Nat.sub_self]
    rfl
  intro e
  unfold crcl at e
  rw [key, key] at e
  have e2 := congrArg (· ^^^ 4294967295) e
  simp only [Nat.xor_assoc, Nat.xor_self, Nat.xor_zero] at e2
  have e3 : czn 8 ((crf 4294967295 (co u) u.length ^^^ x) ^^^ (crf 4294967295 (co u) u.length ^^^ y)) = 0 := by rw [czn_lin, e2, Nat.xor_self]
  have e4 : (crf 4294967295 (co u) u.length ^^^ x) ^^^ (crf 4294967295 (co u) u.length ^^^ y) = x ^^^ y := by
    rw [Nat.xor_assoc, xor_left x, ← Nat.xor_assoc, Nat.xor_self, Nat.zero_xor]
  rw [e4] at e3
  refine czn_ne 8 (Nat.xor_lt_two_pow (n := 32) (by omega) (by omega)) ?_ e3
  intro h0
  apply hne
  have := congrArg (· ^^^ y) h0
  simpa [Nat.xor_assoc] using this

/-- The first n of some bytes, the last one of them torn. -/
def crs (l : List Nat) (n t : Nat) : List Nat := if n = 0 then [] else l.take (n - 1) ++ [co l (n - 1) ^^^ t]
theorem crs_none (l : List Nat) (t : Nat) : crs l 0 t = [] := rfl
theorem crs_some (l : List Nat) (n t : Nat) : crs l (n + 1) t = l.take n ++ [co l n ^^^ t] := by unfold crs; rw [if_neg (by omega), Nat.add_sub_cancel]
theorem crs_len (l : List Nat) (n t : Nat) (h : n ≤ l.length) : (crs l n t).length = n := by
  cases n with
  | zero => rfl
  | succ n => rw [crs_some, List.length_append, List.length_take, List.length_singleton]; omega
theorem crs_zero (l : List Nat) (n : Nat) (h : n ≤ l.length) : crs l n 0 = l.take n := by
  cases n with
  | zero => rw [crs_none, List.take_zero]
  | succ n => rw [crs_some, Nat.xor_zero, take12_succ l n (by omega)]
theorem crs_sm {l : List Nat} (h : Sm l) (n : Nat) {t : Nat} (ht : t < 256) : Sm (crs l n t) := by
  cases n with
  | zero => exact Sm.nil
  | succ n => rw [crs_some]; exact sm12_app (sm12_take h n) (Sm.cons (Nat.xor_lt_two_pow (n := 8) (h n) ht) Sm.nil)
theorem crs_behind (a b : List Nat) (n t : Nat) (h : a.length < n) : crs (a ++ b) n t = a ++ crs b (n - a.length) t := by
  obtain ⟨m, rfl⟩ : ∃ m, n = a.length + (m + 1) := ⟨n - a.length - 1, by omega⟩
  rw [Nat.add_sub_cancel_left, ← Nat.add_assoc, crs_some, crs_some, List.take_length_add_append, co12_right a b _ (by omega), Nat.add_sub_cancel_left, List.append_assoc]
theorem crs_within (a b : List Nat) (n t : Nat) (h : n ≤ a.length) : crs (a ++ b) n t = crs a n t := by
  cases n with
  | zero => rfl
  | succ n => rw [crs_some, crs_some, List.take_append_of_le_length (by omega), co12_left a b n (by omega)]

/-- A frame that is not whole, with its last byte torn, is none; nor is a whole one that is torn. -/
theorem nx_short {b : List Nat} (h : ∀ n, 1 ≤ n → n ≤ 1000 → co b 0 * 256 + co b 1 = n → 2 ≤ b.length → b.length < 6 + n) : ∃ e, nx b = .er e := by
  unfold nx
  by_cases h2 : b.length < 2
  · exact ⟨2, if_pos h2⟩
  · rw [if_neg h2]
    by_cases h3 : co b 0 * 256 + co b 1 < 1 ∨ 1000 < co b 0 * 256 + co b 1
    · exact ⟨14, if_pos h3⟩
    · rw [if_neg h3, if_pos (h _ (by omega) (by omega) rfl (by omega))]
      exact ⟨2, rfl⟩
theorem fr_zero (t : List Nat) : co (fr t) 0 = t.length / 256 := rfl
theorem fr_one (t : List Nat) : co (fr t) 1 = t.length % 256 := rfl
theorem nx_crs_cut (t : List Nat) (n x : Nat) (hn : n < (fr t).length) : ∃ e, nx (crs (fr t) n x) = .er e := by
  have hl := crs_len (fr t) n x (by omega)
  rw [fr_len] at hn
  apply nx_short
  intro m h1 h2 hm h3
  rw [hl] at h3 ⊢
  by_cases h : n = 2
  · omega
  · obtain ⟨j, rfl⟩ : ∃ j, n = (j + 2) + 1 := ⟨n - 3, by omega⟩
    rw [crs_some] at hm
    have h4 : ((fr t).take (j + 2)).length = j + 2 := by rw [List.length_take, fr_len]; omega
    rw [co12_left _ _ 0 (by omega), co12_left _ _ 1 (by omega), co12_take _ _ 0 (by omega), co12_take _ _ 1 (by omega), fr_zero, fr_one, len_two] at hm
    omega
theorem nx_crs_torn (t : List Nat) (x : Nat) (ht : FrOk t) (hs : Sm t) (hx : x < 256) (h0 : x ≠ 0) : ∃ e, nx (crs (fr t) (fr t).length x) = .er e := by
  obtain ⟨u, y, rfl⟩ : ∃ u y, t = u ++ [y] := by
    have hne : t ≠ [] := by rintro rfl; unfold FrOk at ht; simp at ht
    exact ⟨t.dropLast, t.getLast hne, (List.dropLast_concat_getLast hne).symm⟩
  have hsu : Sm u ∧ y < 256 := ⟨Pol.co_lt_of fun z hz => hs.mem z (List.mem_append.2 (.inl hz)), hs.mem y (List.mem_append.2 (.inr (List.mem_singleton.2 rfl)))⟩
  have e6 : (fr (u ++ [y])).take 6 ++ (u ++ [y]) = fr (u ++ [y]) := by
    have h6 : (fr (u ++ [y])).drop 6 = u ++ [y] := by
      unfold fr
      show (cbs (crcl (u ++ [y])) ++ (u ++ [y])).drop 4 = _
      rw [← cbs_len (crcl (u ++ [y])), List.drop_left]
    conv => lhs; rhs; rw [← h6]
    exact List.take_append_drop 6 _
  have e7 : crs (fr (u ++ [y])) (fr (u ++ [y])).length x = (fr (u ++ [y])).take 6 ++ (u ++ [y ^^^ x]) := by
    generalize hp : (fr (u ++ [y])).take 6 = p at e6 ⊢
    rw [← e6]
    have hl : (p ++ (u ++ [y])).length = (p ++ u).length + 1 := by simp only [List.length_append, List.length_singleton]; omega
    rw [hl, ← List.append_assoc, crs_some, List.take_left, co12_right _ _ _ (Nat.le_refl _), Nat.sub_self, List.append_assoc]
    rfl
  have hyx : y ^^^ x ≠ y := fun e => h0 (by
    have := congrArg (y ^^^ ·) e
    simpa [← Nat.xor_assoc] using this)
  rw [e7]
  exact ⟨4, nx_bad (u ++ [y]) (u ++ [y ^^^ x]) ht (by simp) (crc12_last u (y ^^^ x) y (Nat.xor_lt_two_pow (n := 8) hsu.2 hx) hsu.2 hyx)⟩

/-- Frames ahead of whatever stay. -/
theorem al_app (x : List Nat) : ∀ ls : List (List Nat), (∀ t ∈ ls, FrOk t) → al (fl ls ++ x) = (ls ++ (al x).1, (fl ls).length + (al x).2)
  | [], _ => by
    show al x = _
    rw [List.nil_append, show (fl []).length = 0 from rfl, Nat.zero_add]
  | t :: ls, h => by
    rw [fl_cons, List.append_assoc, al_ok (nx_fr t (fl ls ++ x) (h t (List.mem_cons.2 (.inl rfl)))), al_app x ls (fun u hu => h u (List.mem_cons.2 (.inr hu))), List.length_append, fr_len]
    refine Prod.ext rfl ?_
    show _ + (_ + _) = _
    omega
theorem al_whole (ls : List (List Nat)) (h : ∀ t ∈ ls, FrOk t) : al (fl ls) = (ls, (fl ls).length) := by
  have h1 := al_frames [] 2 rfl ls h
  rwa [List.append_nil] at h1
/-- Of torn frames the first ones are left. -/
theorem al_torn (x : Nat) (hx : x < 256) : ∀ (ls : List (List Nat)) (n : Nat), (∀ t ∈ ls, FrOk t ∧ Sm t) → n ≤ (fl ls).length → ∃ m, m ≤ ls.length ∧ al (crs (fl ls) n x) = (ls.take m, (fl (ls.take m)).length)
  | [], n, _, hn => ⟨0, Nat.le_refl _, by
    obtain rfl : n = 0 := by simpa [fl] using hn
    rw [crs_none]
    exact al_er (e := 2) rfl⟩
  | t :: ls, n, h, hn => by
    have ht := h t (List.mem_cons.2 (.inl rfl))
    have none : (∃ e, nx (crs (fl (t :: ls)) n x) = .er e) → ∃ m, m ≤ (t :: ls).length ∧ al (crs (fl (t :: ls)) n x) = ((t :: ls).take m, (fl ((t :: ls).take m)).length) := fun ⟨e, he⟩ => ⟨0, Nat.zero_le _, al_er he⟩
    rw [fl_cons] at none hn ⊢
    rw [List.length_append] at hn
    rcases Nat.lt_or_ge (fr t).length n with hlt | hge
    · obtain ⟨m, hm, e⟩ := al_torn x hx ls (n - (fr t).length) (fun u hu => h u (List.mem_cons.2 (.inr hu))) (by omega)
      refine ⟨m + 1, by simp only [List.length_cons]; omega, ?_⟩
      rw [crs_behind _ _ _ _ hlt, al_ok (nx_fr t _ ht.1), e, List.take_succ_cons, fl_cons, List.length_append, fr_len]
    · rw [crs_within _ _ _ _ hge] at none ⊢
      rcases Nat.lt_or_ge n (fr t).length with hlt | hge2
      · exact none (nx_crs_cut t n x hlt)
      · obtain rfl : n = (fr t).length := by omega
        by_cases h0 : x = 0
        · refine ⟨1, by simp, ?_⟩
          have e1 := al_whole [t] (fun u hu => by rw [List.mem_singleton.1 hu]; exact ht.1)
          have e2 : fl [t] = fr t := by unfold fl; simp
          rw [e2] at e1
          rw [h0, crs_zero _ _ (Nat.le_refl _), List.take_length, e1, List.take_succ_cons, List.take_zero, e2]
        · exact none (nx_crs_torn t x ht.1 ht.2 hx h0)

/-- What is kept of so many loose bytes. -/
def kept (k : Int) (n : Nat) : Nat := if k ≤ 0 then 0 else min k.toNat n
theorem kept_le (k : Int) (n : Nat) : kept k n ≤ n := by
  unfold kept
  split <;> omega
/-- A crash of a disk whose durable bytes are whole frames, and its loose ones too: the first records are left, and all that were durable. -/
theorem al_crash (R : List (List Nat)) (k n x : Nat) (hx : x < 256) (hR : ∀ t ∈ R, FrOk t ∧ Sm t) (hk : k ≤ R.length) (hn : n ≤ (fl (R.drop k)).length) :
    ∃ m, k ≤ m ∧ m ≤ R.length ∧ al (fl (R.take k) ++ crs (fl (R.drop k)) n x) = (R.take m, (fl (R.take m)).length) := by
  obtain ⟨m, hm, e⟩ := al_torn x hx (R.drop k) n (fun t ht => hR t (List.mem_of_mem_drop ht)) hn
  rw [List.length_drop] at hm
  have et : R.take (k + m) = R.take k ++ (R.drop k).take m := by rw [List.take_add]
  refine ⟨k + m, by omega, by omega, ?_⟩
  rw [al_app _ _ (fun t ht => (hR t (List.mem_of_mem_take ht)).1), e, et, fl_app, List.length_append]
/-- The frames of whole bytes are their bytes. -/
theorem al_again (b : List Nat) (hs : Sm b) : al (b.take (al b).2) = ((al b).1, (al b).2) := by
  obtain ⟨h1, h2, h3⟩ := al_flat b hs
  have h4 := al_whole (al b).1 (fun t ht => (h3 t ht).1)
  have h5 : (fl (al b).1).length = (al b).2 := by rw [h1, List.length_take]; omega
  rw [h5, h1] at h4
  exact h4
end Go.Proofs.YtjifionpblpfoaaDoor

/-
  A byte is put into bytes of a call's own. Conditions: none; no function is named here.
-/
namespace Go.Proofs.YtjifionpblpfoaaDoor
open Go.RowKit
open Pol (co Sm)

/-- A byte is put into bytes of a call's own. -/
theorem Mine.put {w : World} {base g n c i x : Nat} {l : List Nat} (h : Mine w base (.slice (some ⟨g, 0, none⟩) n c) l) (_ : i < l.length) : Mine (w.setCell ⟨g, i, none⟩ (.int .u8 (x : Int))) base (.slice (some ⟨g, 0, none⟩) n c) (l.set i x) := by
  rcases h.2 with ⟨e, _⟩ | ⟨g', cap, cur, e, hb, hg, hnc, hcm, hcs, ht⟩
  · cases e
  · injection e with e1 e2 e3
    injection e1 with e1
    injection e1 with e1
    subst e1; subst e3
    refine ⟨by rw [bv_len, List.length_set, Nat.mul_one], .inr ⟨g, c, cur.setIfInBounds i (.int .u8 (x : Int)), by rw [List.length_set, e2], hb, heap_setCell_same w g i cur _ _ hg, by rw [List.length_set]; exact hnc, hcm, by simpa using hcs, ?_⟩⟩
    rw [List.length_set, Array.toList_setIfInBounds, List.take_set, ht]
    unfold bv
    rw [List.map_set]
theorem set_last (L : List Nat) (m x : Nat) (h : m < L.length) : (L.take (m + 1)).set m x = L.take m ++ [x] := by
  rw [take12_succ L m h, List.set_append_right _ _ (by rw [List.length_take]; omega), List.length_take, Nat.min_eq_left (by omega), Nat.sub_self]
  rfl
theorem v64_of (z : Int) (m : Nat) (hz : z = (m : Int)) (h : m ≤ 1099511627776) : Value.int .i64 (wrap64 z) = Value.int .i64 (m : Int) := by
  subst hz
  congr 1
  unfold wrap64
  omega
theorem w64_few (m : Nat) (h : m ≤ 65536) : wrap64 (m : Int) = (m : Int) := by unfold wrap64; omega
theorem Mine.spot {w : World} {base : Nat} {v : Value} {l : List Nat} (h : Mine w base v l) (hs : Sm l) {i : Nat} (hi : i < l.length) : ∃ g n c, v = .slice (some ⟨g, 0, none⟩) n c ∧ w.cell? ⟨g, i, none⟩ = some (.int .u8 ((co l i : Nat) : Int)) ∧ w.frozen? ⟨g, i, none⟩ = false := by
  obtain ⟨B, c, rfl, _, hr⟩ := h.slice hs
  rcases h.2 with ⟨e, hn⟩ | ⟨g, cap, cur, e, hb, hg, _⟩
  · omega
  · injection e with e1 e2 e3
    subst e1
    obtain ⟨b, o, e4, hc⟩ := hr.2 i hi
    injection e4 with e4
    injection e4 with e4 e5
    subst e4; subst e5
    rw [Nat.zero_add] at hc
    exact ⟨g, _, c, rfl, hc, frozen_of_row w g i cur _ hg⟩
end Go.Proofs.YtjifionpblpfoaaDoor

/-
  EnvelopeOwn, walked. Conditions: those of EnvMk, EnvCd.
-/
namespace Go.Proofs.YtjifionpblpfoaaDoor
open Go.RowKit
open Pol (co Sm)

set_option maxHeartbeats 12800000 in
set_option maxRecDepth 100000 in
theorem own16_walk (M : EnvMk) (C : EnvCd) (s : Int) (nn f x k c : Nat) (b : List Nat) (A : Option Addr) (w : World) (hgl : GL w)
    (hb : b.length = k) (_ : k ≤ c) (hr : Rd w A b) (h1 : nn < 18446744073709551616) (h2 : f < 18446744073709551616) (h3 : x < 18446744073709551616) :
    Calls Tryd.prog 6 #[evv s nn f x A k c] w (Holds w) := by
  have hx0 := (Ext.refl w).alloc (.cells #[.int .i64 s, .int .u64 (nn : Int), .int .u64 (f : Int), .int .u64 (x : Int), .slice A k c] 25)
  have HX := Lib.hid hx0
  have HG := Lib.hid (heap_alloc_new w (.cells #[.int .i64 s, .int .u64 (nn : Int), .int .u64 (f : Int), .int .u64 (x : Int), .slice A k c] 25))
  have HAW := Lib.hid (fun u (_ : Ext w u) => awake16 M u)
  have HRC := Lib.hid (fun u => ref16_check s nn f x k c b A u hb)
  have hOK := Ev.chk_ok (e := ⟨s, nn, f, x, b⟩)
  clear hx0
  obtain ⟨ck, hck⟩ : ∃ q, Ev.chk ⟨s, nn, f, x, b⟩ = q := ⟨_, rfl⟩
  rw [hck] at HRC hOK
  by_cases hk0 : ck = 0
  rotate_left
  · skip
    have d1 : ((ck : Int) == 0) = false := by simp; omega
    have d2 : ((ck : Int) != 0) = true := by simp; omega
    have d3 : decide ((ck : Int) = 0) = false := decide_eq_false (by omega)
    have d4 : decide (ck = 0) = false := decide_eq_false (by omega)
    clear hk0 hr hgl M C hck hOK hb
    go_enter Tryd.func6, Tryd.ntmps6
    go_wp2_with fail
    refine (HAW.out _ HX.out).mono ?_
    rintro e w1 ⟨rfl, hx⟩
    replace HX := Lib.hid (HX.out.trans (hx))
    replace HG := Lib.hid ((hx).row HG.out)
    clear hx
    go_wp2_with (refine wpList_load_row_g (by first | rfl | go_simp) 25 (.tmp 1) rfl (w.heap.size) rfl 25 #[.int .i64 s, .int .u64 (nn : Int), .int .u64 (f : Int), .int .u64 (x : Int), .slice A k c] (0, 0) _ HG.out Tryd.underlying25 rfl ev_in16 ?_)
    refine (HRC.out _).mono ?_
    rintro e w2 ⟨rfl, hx⟩
    replace HX := Lib.hid (HX.out.trans (hx))
    replace HG := Lib.hid ((hx).row HG.out)
    clear hx
    go_wp2_with fail
    refine (HAW.out _ HX.out).mono ?_
    rintro e w3 ⟨rfl, hx⟩
    replace HX := Lib.hid (HX.out.trans (hx))
    replace HG := Lib.hid ((hx).row HG.out)
    clear hx
    go_wp2
    go_ret
    exact ⟨rfl, HX.out⟩
  subst hk0
  have hok := hOK.1 rfl
  have hk1 : 1 ≤ k := by have h := hok.2.2.2.1; dsimp only at h; rw [hb] at h; exact h
  have hk2 : k ≤ 32 := by have h := hok.2.2.2.2; dsimp only at h; rw [hb] at h; exact h
  have HBK := Lib.hid hb
  have HKM := Lib.hid hk2
  have HK1 := Lib.hid hk1
  have HRB := Lib.hid (fun u (h : Ext w u) => hr.ext h)
  have HSB := Lib.hid hr.1
  have hfit : (Ev.mk s nn f x b).Fit := ⟨h1, h2, h3, hr.1⟩
  have hel := Ev.enc_len hok hfit
  have HSY := Lib.hid (Ev.enc_sm (e := ⟨s, nn, f, x, b⟩) hr.1)
  have hde := dec16_enc hok hfit
  have HEN := Lib.hid (fun u B1 c1 (g1 : k ≤ c1) (g2 : Rd u B1 b) => C.enc s nn f x k c1 b B1 u hb g1 g2 (by omega) h1 h2 h3)
  unfold EncO at HEN
  rw [hck, Ev.bytes_ok hok] at HEN
  have HDX := Lib.hid (fun u B1 n1 c1 (g1 : (Ev.enc ⟨s, nn, f, x, b⟩).length = n1) (g2 : n1 ≤ c1) (g3 : Rd u B1 (Ev.enc ⟨s, nn, f, x, b⟩)) => C.dec _ B1 n1 c1 u g1 g2 g3 (by omega))
  unfold DecO at HDX
  rw [hde] at HDX
  dsimp only at HDX
  have HID := Lib.hid (fun u B1 c1 (g1 : k ≤ c1) (hu : Ext w u) (g2 : Rd u B1 b) => C.id s nn f x k c1 b B1 u (hgl.ext hu) hb g1 g2 (by omega) h1 h2 h3)
  unfold DgS at HID
  have HSS := Lib.hid (fun u (hu : Ext w u) B1 c1 (g2 : Rd u B1 b) => ref16_same s s nn f x k c1 nn f x k c b b B1 A u hb hb g2 (hr.ext hu) (by omega))
  rw [show decide (Ev.Same ⟨s, nn, f, x, b⟩ ⟨s, nn, f, x, b⟩) = true from decide_eq_true ⟨rfl, rfl, rfl, rfl, rfl⟩] at HSS
  obtain ⟨BY, hBY⟩ : ∃ q, Ev.enc ⟨s, nn, f, x, b⟩ = q := ⟨_, rfl⟩
  rw [hBY] at HEN HDX HSY hel
  obtain ⟨ne, hne⟩ : ∃ q, BY.length = q := ⟨_, rfl⟩
  have HNE := Lib.hid hne
  have HNP := Lib.hid (show 0 < ne by omega)
  have HNM := Lib.hid (show ne ≤ 64 by omega)
  have HSA := Lib.hid (fun u B1 B2 n1 n2 c1 c2 (g1 : BY.length = n1) (g2 : BY.length = n2) (q1 : Rd u B1 BY) (q2 : Rd u B2 BY) => same14 BY BY B1 B2 n1 n2 c1 c2 u g1 g2 q1 q2 (by omega))
  rw [decide_eq_true (rfl : BY = BY)] at HSA
  clear hr hgl M C hck hOK hok hb hfit hel hde hBY hne
  go_enter Tryd.func6, Tryd.ntmps6
  go_wp2_with fail
  refine (HAW.out _ HX.out).mono ?_
  rintro e w1 ⟨rfl, hx⟩
  replace HX := Lib.hid (HX.out.trans (hx))
  replace HG := Lib.hid ((hx).row HG.out)
  clear hx
  go_wp2_with (refine wpList_load_row_g (by first | rfl | go_simp) 25 (.tmp 1) rfl (w.heap.size) rfl 25 #[.int .i64 s, .int .u64 (nn : Int), .int .u64 (f : Int), .int .u64 (x : Int), .slice A k c] (0, 0) _ HG.out Tryd.underlying25 rfl ev_in16 ?_)
  refine (HRC.out _).mono ?_
  rintro e w2 ⟨rfl, hx⟩
  replace HX := Lib.hid (HX.out.trans (hx))
  replace HG := Lib.hid ((hx).row HG.out)
  clear hx
  have hxo := (Ext.refl w2).alloc (.cells #[.int .i64 s, .int .u64 (nn : Int), .int .u64 (f : Int), .int .u64 (x : Int), .slice A k c] 25)
  have HO := Lib.hid (heap_alloc_new w2 (.cells #[.int .i64 s, .int .u64 (nn : Int), .int .u64 (f : Int), .int .u64 (x : Int), .slice A k c] 25))
  have HG3 := Lib.hid (hxo.row HG.out)
  have HX3 := Lib.hid (HX.out.trans hxo)
  have g4 := cell_of_row _ _ 4 _ _ _ (((Ext.refl (w2.alloc (.cells #[.int .i64 s, .int .u64 (nn : Int), .int .u64 (f : Int), .int .u64 (x : Int), .slice A k c] 25))).alloc (.cells #[] 5)).row HG3.out)
  obtain ⟨go, hgo⟩ : ∃ q, w2.heap.size = q := ⟨_, rfl⟩
  have HLT := Lib.hid (show w.heap.size < go from by have := row_lt HG.out; omega)
  have hs3 : (w2.alloc (.cells #[.int .i64 s, .int .u64 (nn : Int), .int .u64 (f : Int), .int .u64 (x : Int), .slice A k c] 25)).heap.size = go + 1 := by rw [← hgo]; simp
  obtain ⟨w3, hw3⟩ : ∃ q, w2.alloc (.cells #[.int .i64 s, .int .u64 (nn : Int), .int .u64 (f : Int), .int .u64 (x : Int), .slice A k c] 25) = q := ⟨_, rfl⟩
  rw [hw3] at HO HG3 HX3 hs3
  rw [hgo] at HO
  have HW3 := Lib.hid hw3
  have HGO := Lib.hid hgo
  have HS3 := Lib.hid hs3
  have hme := mine_empty w3
  rw [hs3] at hme
  have HME := Lib.hid hme
  clear hme hs3 hgo hw3 hxo
  go_wp2_with (first | (with_reducible refine wpList_load_row rfl 25 (.tmp 1) rfl (w.heap.size) rfl 25 #[.int .i64 s, .int .u64 (nn : Int), .int .u64 (f : Int), .int .u64 (x : Int), .slice A k c] (0, 0) _ HG.out Tryd.underlying25 rfl ev_in16 ?_) | (at_builtin; rw [HW3.out, HGO.out]; refine wpList_append_new rfl (.tmp 22) (.tmp 24) rfl (go + 1) (go + 1) b rfl HME.out A k c rfl HBK.out (HRB.out _ (HX3.out.alloc _)) (by rw [HBK.out]; have := HKM.out; omega) (by rw [← HS3.out]; exact ((Ext.refl w3).alloc _).size) ?_; intro v4 w4 hm hx hq; obtain ⟨B4, c4, rfl, hc4, hr4⟩ := hm.slice HSB.out; rw [HBK.out] at hc4 hm ⊢; have hx4 := ((Ext.refl w3).alloc (.cells #[] 5)).trans hx; have HO4 := Lib.hid (hx4.row HO.out); have HG4 := Lib.hid (hx4.row HG3.out); have HX4 := Lib.hid (HX3.out.trans hx4); have HR4 := Lib.hid hr4; have HC4 := Lib.hid hc4; have HM4 := Lib.hid hm; have o4 := cell_of_row _ _ 4 _ _ _ HO4.out; have z4 := frozen_of_row _ go 4 _ _ HO4.out; clear hm hx hq hr4 hc4 hx4 HO HG3; have HO5 := Lib.hid (show (w4.setCell ⟨go, 4, none⟩ (.slice B4 k c4)).heap[go]? = some (.cells #[.int .i64 s, .int .u64 (nn : Int), .int .u64 (f : Int), .int .u64 (x : Int), .slice B4 k c4] 25) from heap_setCell_same w4 go 4 _ _ (.slice B4 k c4) HO4.out); have HG5 := Lib.hid (show (w4.setCell ⟨go, 4, none⟩ (.slice B4 k c4)).heap[w.heap.size]? = some (.cells #[.int .i64 s, .int .u64 (nn : Int), .int .u64 (f : Int), .int .u64 (x : Int), .slice A k c] 25) from (heap_setCell_other w4 ⟨go, 4, none⟩ w.heap.size (.slice B4 k c4) (by have := HLT.out; dsimp only; omega)).trans HG4.out); have hX5 := HX4.out.setCell (p := ⟨go, 4, none⟩) (by have := HLT.out; dsimp only; omega) (.slice B4 k c4); have HX5 := Lib.hid hX5; have HR5 := Lib.hid (HR4.out.keep (grown_set' w4 go 4 (.slice B4 k c4)) (fun q p e h0 e2 => by injection e2 with e2; have h1 := (HM4.out.block q (by rw [e]; rfl)).1; omega)); have HB4 := Lib.hid (fun q (e : (Value.slice B4 k c4).ownBlock = some q) => show q < (w4.setCell ⟨go, 4, none⟩ (.slice B4 k c4)).heap.size from by have h1 := (HM4.out.block q e).2; exact Nat.lt_of_lt_of_le h1 (grown_set' w4 go 4 _).size); clear hX5) | (with_reducible refine wpList_load_row rfl 25 (.tmp 3) rfl (go) rfl 25 #[.int .i64 s, .int .u64 (nn : Int), .int .u64 (f : Int), .int .u64 (x : Int), .slice B4 k c4] (0, 0) _ HO5.out Tryd.underlying25 rfl ev_in16 ?_))
  generalize w4.setCell ⟨go, 4, none⟩ (.slice B4 k c4) = w5 at HO5 HG5 HX5 HR5 HB4 ⊢
  clear g4 HO4 HG4 HX4 HR4 HM4 HX HG
  refine (HEN.out w5 B4 c4 HC4.out HR5.out).mono ?_
  rintro e w6 ⟨v6, rfl, hm, hx⟩
  have HB5 := Lib.hid (row_lt HO5.out)
  replace HX5 := Lib.hid (HX5.out.trans (hx))
  replace HG5 := Lib.hid ((hx).row HG5.out)
  replace HO5 := Lib.hid ((hx).row HO5.out)
  replace HR5 := Lib.hid (HR5.out.ext (hx))
  obtain ⟨g6, c6, rfl, hb6, hc6⟩ : ∃ g6 c6, v6 = .slice (some ⟨g6, 0, none⟩) ne c6 ∧ w5.heap.size ≤ g6 ∧ ne ≤ c6 := by
    have hs := hm.slice HSY.out
    obtain ⟨B, c6, rfl, hc, hr⟩ := hs
    rw [HNE.out] at hc ⊢
    obtain ⟨q, o, hB⟩ : ∃ q o, B = some ⟨q, o, none⟩ := by obtain ⟨q, o, e, _⟩ := hr.2 0 (by rw [HNE.out]; exact HNP.out); exact ⟨q, o, e⟩
    subst hB
    rcases hm.2 with ⟨e, _⟩ | ⟨g, cap, cur, e, hb, _⟩
    · cases e
    · injection e with e1 e2 e3
      injection e1 with e1
      injection e1 with e1 e2
      subst e1 e2
      exact ⟨q, c6, rfl, hb, hc⟩
  have HM6 := Lib.hid hm
  have HB6 := Lib.hid hb6
  have HB66 := Lib.hid ((hm.block g6 rfl).2)
  clear hm hb6 hx
  obtain ⟨ge, hge⟩ : ∃ q, w6.heap.size = q := ⟨_, rfl⟩
  have hme := mine_empty w6
  rw [hge] at hme
  have HME6 := Lib.hid hme
  have HGE := Lib.hid hge
  rw [hge] at HB66
  clear hme hge
  have hrd6 := HM6.out.slice HSY.out
  obtain ⟨B6x, c6x, e6x, _, hr6⟩ := hrd6
  obtain ⟨rfl, rfl⟩ : some ⟨g6, 0, none⟩ = B6x ∧ c6 = c6x := by rw [HNE.out] at e6x; injection e6x with e1 _ e3; exact ⟨e1, e3⟩
  have HR6 := Lib.hid hr6
  clear e6x hr6
  go_wp2_with (at_builtin; rw [HGE.out]; refine wpList_append_new rfl (.tmp 32) (.tmp 33) rfl ge ge BY rfl HME6.out (some ⟨g6, 0, none⟩) ne c6 rfl HNE.out (HR6.out.ext ((Ext.refl w6).alloc _)) (by rw [HNE.out]; have := HNM.out; omega) (by rw [← HGE.out]; exact ((Ext.refl w6).alloc _).size) ?_; intro v7 w7 hm hx hq; obtain ⟨B7, c7, rfl, hc7, hr7⟩ := hm.slice HSY.out; rw [HNE.out] at hc7 hm ⊢; have hx7 := ((Ext.refl w6).alloc (.cells #[] 5)).trans hx)
  replace HX5 := Lib.hid (HX5.out.trans (hx7))
  replace HG5 := Lib.hid ((hx7).row HG5.out)
  replace HO5 := Lib.hid ((hx7).row HO5.out)
  replace HR5 := Lib.hid (HR5.out.ext (hx7))
  replace HM6 := Lib.hid (mine_ext HM6.out (hx7))
  replace HR6 := Lib.hid (HR6.out.ext hx7)
  have HS67 := Lib.hid (show ge ≤ w7.heap.size from by have h := hx7.size; have := HGE.out; omega)
  have HR7 := Lib.hid hr7
  have HB7 := Lib.hid (fun q (e : (Value.slice B7 ne c7).ownBlock = some q) => show ge ≤ q ∧ q < w7.heap.size from ⟨(hm.block q e).1, (hm.block q e).2⟩)
  clear hm hx hq hr7 hc7 hx7
  go_wp2_with fail
  refine (HDX.out w7 _ ne c6 HNE.out hc6 HR6.out).mono ?_
  rintro e w8 ⟨v8, rfl, hm, hx⟩
  replace HX5 := Lib.hid (HX5.out.trans (hx))
  replace HG5 := Lib.hid ((hx).row HG5.out)
  replace HO5 := Lib.hid ((hx).row HO5.out)
  replace HR5 := Lib.hid (HR5.out.ext (hx))
  replace HM6 := Lib.hid (mine_ext HM6.out (hx))
  replace HR6 := Lib.hid (HR6.out.ext (hx))
  replace HR7 := Lib.hid (HR7.out.ext (hx))
  clear hx
  obtain ⟨gd, c8, rfl, hb8⟩ : ∃ gd c8, v8 = .slice (some ⟨gd, 0, none⟩) k c8 ∧ w7.heap.size ≤ gd := by
    rcases hm.2 with ⟨e, h0⟩ | ⟨g, cap, cur, e, hb, _⟩
    · rw [HBK.out] at h0
      have := HK1.out
      omega
    · exact ⟨g, cap, by rw [e, HBK.out], hb⟩
  have HM8 := Lib.hid hm
  have HB8 := Lib.hid hb8
  have HL8 := Lib.hid ((hm.block gd rfl).2)
  clear hm hb8
  have hxa := (Ext.refl w8).alloc (.cells #[.int .i64 s, .int .u64 (nn : Int), .int .u64 (f : Int), .int .u64 (x : Int), .slice (some ⟨gd, 0, none⟩) k c8] 25)
  obtain ⟨gs, hgs⟩ : ∃ q, w8.heap.size = q := ⟨_, rfl⟩
  rw [hgs] at HL8
  replace HX5 := Lib.hid (HX5.out.trans (hxa))
  replace HG5 := Lib.hid ((hxa).row HG5.out)
  replace HO5 := Lib.hid ((hxa).row HO5.out)
  replace HR5 := Lib.hid (HR5.out.ext (hxa))
  replace HM6 := Lib.hid (mine_ext HM6.out (hxa))
  replace HR6 := Lib.hid (HR6.out.ext (hxa))
  replace HR7 := Lib.hid (HR7.out.ext (hxa))
  replace HM8 := Lib.hid (mine_ext HM8.out (hxa))
  have hds := heap_alloc_new w8 (.cells #[.int .i64 s, .int .u64 (nn : Int), .int .u64 (f : Int), .int .u64 (x : Int), .slice (some ⟨gd, 0, none⟩) k c8] 25)
  rw [hgs] at hds
  have HDS := Lib.hid hds
  clear hxa hds
  go_wp2_with (with_reducible refine wpList_load_row rfl 25 (.tmp 3) rfl (go) rfl 25 #[.int .i64 s, .int .u64 (nn : Int), .int .u64 (f : Int), .int .u64 (x : Int), .slice B4 k c4] (0, 0) _ HO5.out Tryd.underlying25 rfl ev_in16 ?_)
  try rw [hgs]
  clear hgs
  generalize w8.alloc (.cells #[.int .i64 s, .int .u64 (nn : Int), .int .u64 (f : Int), .int .u64 (x : Int), .slice (some ⟨gd, 0, none⟩) k c8] 25) = w9 at *
  refine (HID.out w9 B4 c4 HC4.out HX5.out HR5.out).mono ?_
  rintro e w10 ⟨VD, rfl, hV, hx⟩
  replace HX5 := Lib.hid (HX5.out.trans (hx))
  replace HG5 := Lib.hid ((hx).row HG5.out)
  replace HO5 := Lib.hid ((hx).row HO5.out)
  replace HR5 := Lib.hid (HR5.out.ext (hx))
  replace HM6 := Lib.hid (mine_ext HM6.out (hx))
  replace HR6 := Lib.hid (HR6.out.ext (hx))
  replace HR7 := Lib.hid (HR7.out.ext (hx))
  replace HM8 := Lib.hid (mine_ext HM8.out (hx))
  replace HDS := Lib.hid ((hx).row HDS.out)
  have HV := Lib.hid hV
  have HI := Lib.hid hV.info
  have HONE := Lib.hid hV.one
  have hz := zero_digest.1
  have HZ32 := Lib.hid (fun (_ : Unit) => show (bt 32 fun _ => 0).size = VD.size from by rw [bt_size, hV.1])
  obtain ⟨Z, hZ⟩ : ∃ Z, (bt 32 fun _ => 0) = Z := ⟨_, rfl⟩
  rw [hZ] at hz HZ32
  have HZN := Lib.hid (heap_alloc_new w10 (.cells Z 39))
  have HB10 := Lib.hid (show gs < w10.heap.size from row_lt HDS.out)
  have hxa := (Ext.refl w10).alloc (.cells VD 39)
  replace HX5 := Lib.hid (HX5.out.trans (hxa))
  replace HG5 := Lib.hid ((hxa).row HG5.out)
  replace HO5 := Lib.hid ((hxa).row HO5.out)
  replace HR5 := Lib.hid (HR5.out.ext (hxa))
  replace HM6 := Lib.hid (mine_ext HM6.out (hxa))
  replace HR6 := Lib.hid (HR6.out.ext (hxa))
  replace HR7 := Lib.hid (HR7.out.ext (hxa))
  replace HM8 := Lib.hid (mine_ext HM8.out (hxa))
  replace HDS := Lib.hid ((hxa).row HDS.out)
  have HDD := Lib.hid (heap_alloc_new w10 (.cells VD 39))
  clear hV hx hxa hZ
  have d4 := cell_of_row _ gs 4 _ _ _ HDS.out
  go_wp2_with (with_reducible refine wpList_store_all rfl 39 (.tmp 9) (.tmp 41) rfl w10.heap.size Z VD rfl rfl HZN.out HI.out (HZ32.out ()) HONE.out ?_; rw [World.setRow_alloc_new])
  generalize w10.alloc (.cells VD 39) = w11 at *
  clear hz HZN HI HONE HZ32 d4
  have HS7 := Lib.hid (show w.heap.size ≤ w5.heap.size from by have := HLT.out; have := HB5.out; omega)
  obtain ⟨wa, hwa⟩ : ∃ q, q = w11 := ⟨_, rfl⟩
  subst hwa
  go_loopg [45] k (fun gk s45 wx => ∃ (i : Nat) (L : List Nat), i + gk = k ∧ s45 = .int .i64 (i : Int) ∧ Only (fun q => q = gd) wa wx ∧ Mine wx w7.heap.size (.slice (some ⟨gd, 0, none⟩) k c8) L ∧ L.length = k ∧ Sm L)
  case atStart => exact ⟨0, b, by omega, rfl, Only.refl _ _, HM8.out, HBK.out, HSB.out⟩
  case round =>
    obtain ⟨i, L, hig, rfl, hol, hml, hll, hsl⟩ := hrel
    have HOL := Lib.hid hol
    replace HX5 := Lib.hid (HOL.out.ext HX5.out (fun q e => by have := HLT.out; have := HB5.out; have := HB6.out; have := HB66.out; have := HB8.out; have := HL8.out; have := HB10.out; have := HS7.out; have := HS67.out; omega))
    replace HG5 := Lib.hid (HOL.out.row HG5.out (by have := HLT.out; have := HB5.out; have := HB6.out; have := HB66.out; have := HB8.out; have := HL8.out; have := HB10.out; have := HS7.out; have := HS67.out; omega))
    replace HO5 := Lib.hid (HOL.out.row HO5.out (by have := HLT.out; have := HB5.out; have := HB6.out; have := HB66.out; have := HB8.out; have := HL8.out; have := HB10.out; have := HS7.out; have := HS67.out; omega))
    replace HR5 := Lib.hid (rd_only14 HR5.out HOL.out (fun q o e h0 e2 => by have h4 := HB4.out q (by rw [e]; rfl); have := HLT.out; have := HB5.out; have := HB6.out; have := HB66.out; have := HB8.out; have := HL8.out; have := HB10.out; have := HS7.out; have := HS67.out; omega))
    replace HR6 := Lib.hid (rd_only14 HR6.out HOL.out (fun q o e h0 e2 => by have e5 : q = gd := e2; injection e with e; injection e with e e3; have := HLT.out; have := HB5.out; have := HB6.out; have := HB66.out; have := HB8.out; have := HL8.out; have := HB10.out; have := HS7.out; have := HS67.out; omega))
    replace HR7 := Lib.hid (rd_only14 HR7.out HOL.out (fun q o e h0 e2 => by have h7 := HB7.out q (by rw [e]; rfl); have := HLT.out; have := HB5.out; have := HB6.out; have := HB66.out; have := HB8.out; have := HL8.out; have := HB10.out; have := HS7.out; have := HS67.out; omega))
    replace HM6 := Lib.hid (HM6.out.only HOL.out (fun q e e2 => by have e3 : q = gd := e2; have e4 : g6 = q := Option.some.inj e; have := HLT.out; have := HB5.out; have := HB6.out; have := HB66.out; have := HB8.out; have := HL8.out; have := HB10.out; have := HS7.out; have := HS67.out; omega))
    replace HDD := Lib.hid (HOL.out.row HDD.out (by have := HLT.out; have := HB5.out; have := HB6.out; have := HB66.out; have := HB8.out; have := HL8.out; have := HB10.out; have := HS7.out; have := HS67.out; omega))
    replace HDS := Lib.hid (HOL.out.row HDS.out (by have := HLT.out; have := HB5.out; have := HB6.out; have := HB66.out; have := HB8.out; have := HL8.out; have := HB10.out; have := HS7.out; have := HS67.out; omega))
    have HML := Lib.hid hml
    have HLL := Lib.hid hll
    have HSL := Lib.hid hsl
    clear hol hml hll hsl
    cases gk with
    | zero =>
      obtain rfl : k = i := by omega
      clear hig HML HLL HSL
      go_wp2_with fail
      refine (HSA.out _ _ B7 ne ne c6 c7 HNE.out HNE.out HR6.out HR7.out).mono ?_
      rintro e wb ⟨rfl, hx⟩
      replace HX5 := Lib.hid (HX5.out.trans (hx))
      replace HG5 := Lib.hid ((hx).row HG5.out)
      replace HO5 := Lib.hid ((hx).row HO5.out)
      replace HR5 := Lib.hid (HR5.out.ext (hx))
      replace HR6 := Lib.hid (HR6.out.ext (hx))
      replace HR7 := Lib.hid (HR7.out.ext (hx))
      replace HM6 := Lib.hid (mine_ext HM6.out (hx))
      replace HDD := Lib.hid ((hx).row HDD.out)
      clear hx
      obtain ⟨wo, hwo⟩ : ∃ q, q = wb := ⟨_, rfl⟩
      subst hwo
      go_wp2
      go_loopg [61] ne (fun gk s45 wx => ∃ (i : Nat) (L : List Nat), i + gk = ne ∧ s45 = .int .i64 (i : Int) ∧ Only (fun q => q = g6) wo wx ∧ Mine wx w5.heap.size (.slice (some ⟨g6, 0, none⟩) ne c6) L ∧ L.length = ne ∧ Sm L)
      case atStart => exact ⟨0, BY, by omega, rfl, Only.refl _ _, HM6.out, HNE.out, HSY.out⟩
      case round =>
        obtain ⟨i, L, hig, rfl, hol, hml, hll, hsl⟩ := hrel
        have HOL := Lib.hid hol
        replace HX5 := Lib.hid (HOL.out.ext HX5.out (fun q e => by have := HLT.out; have := HB5.out; have := HB6.out; have := HB66.out; have := HB8.out; have := HL8.out; have := HB10.out; have := HS7.out; have := HS67.out; omega))
        replace HG5 := Lib.hid (HOL.out.row HG5.out (by have := HLT.out; have := HB5.out; have := HB6.out; have := HB66.out; have := HB8.out; have := HL8.out; have := HB10.out; have := HS7.out; have := HS67.out; omega))
        replace HO5 := Lib.hid (HOL.out.row HO5.out (by have := HLT.out; have := HB5.out; have := HB6.out; have := HB66.out; have := HB8.out; have := HL8.out; have := HB10.out; have := HS7.out; have := HS67.out; omega))
        replace HR5 := Lib.hid (rd_only14 HR5.out HOL.out (fun q o e h0 e2 => by have h4 := HB4.out q (by rw [e]; rfl); have := HLT.out; have := HB5.out; have := HB6.out; have := HB66.out; have := HB8.out; have := HL8.out; have := HB10.out; have := HS7.out; have := HS67.out; omega))
        replace HDD := Lib.hid (HOL.out.row HDD.out (by have := HLT.out; have := HB5.out; have := HB6.out; have := HB66.out; have := HB8.out; have := HL8.out; have := HB10.out; have := HS7.out; have := HS67.out; omega))
        have HML := Lib.hid hml
        have HLL := Lib.hid hll
        have HSL := Lib.hid hsl
        clear hol hml hll hsl
        cases gk with
        | zero =>
          obtain rfl : ne = i := by omega
          clear hig HML HLL HSL
          go_wp2
          obtain ⟨wz, hwz⟩ : ∃ q, q = wr := ⟨_, rfl⟩
          subst hwz
          have L1 := Lib.hid (fun (W : World) (h : Ext wz W) => show (Instr.loadAt 25 (.pointer (some ⟨go, 0, none⟩))).run Tryd.prog W = .ok (.agg #[.int .i64 s, .int .u64 (nn : Int), .int .u64 (f : Int), .int .u64 (x : Int), .slice B4 k c4]) W from load_ev16 (h.row HO5.out))
          have L2 := Lib.hid (fun (W : World) (h : Ext wz W) => show (Instr.loadAt 25 (.pointer (some ⟨w.heap.size, 0, none⟩))).run Tryd.prog W = .ok (.agg #[.int .i64 s, .int .u64 (nn : Int), .int .u64 (f : Int), .int .u64 (x : Int), .slice A k c]) W from load_ev16 (h.row HG5.out))
          have L3 := Lib.hid (fun (W : World) (h : Ext wz W) => show (Instr.loadAt 39 (.pointer (some ⟨w10.heap.size, 0, none⟩))).run Tryd.prog W = .ok (.agg VD) W from run_load_all W w10.heap.size 39 _ 32 5 Tryd.underlying39 (h.row HDD.out) HV.out.info)
          refine wp_region_stab (Ext wz) [0, 1, 2, 3, 4, 5, 6, 7, 8, 9, 10, 11, 12] [(0, true), (1, true), (2, true), (3, true), (4, false), (5, true), (6, true), (7, true), (9, true), (8, false), (10, true), (11, true), (12, false)] (by kernel_rfl) (fun c a a' w e h => ⟨e ▸ h.1, h.2⟩) (by kernel_rfl) (Ext.refl wz).drew ?_
          have hdr := (Ext.refl wz).drew
          replace HX5 := Lib.hid (HX5.out.trans (hdr))
          replace HR5 := Lib.hid (HR5.out.ext (hdr))
          have HXC := Lib.hid hdr
          generalize wz.drew = W0 at *
          clear hdr
          refine stab_yes rfl (fun K hK => ?_); go_simp; refine ⟨_, fun _ _ => rfl, hK _ ?_⟩; clear hK K
          refine stab_yes rfl (fun K hK => ?_); go_simp; refine ⟨_, fun _ _ => rfl, hK _ ?_⟩; clear hK K
          refine stab_load rfl 25 (.tmp 3) rfl (.agg #[.int .i64 s, .int .u64 (nn : Int), .int .u64 (f : Int), .int .u64 (x : Int), .slice B4 k c4]) (by first | rfl | go_simp) (fun W hW => L1.out W hW) ?_
          refine stab_load rfl 25 (.tmp 1) rfl (.agg #[.int .i64 s, .int .u64 (nn : Int), .int .u64 (f : Int), .int .u64 (x : Int), .slice A k c]) (by first | rfl | go_simp) (fun W hW => L2.out W hW) ?_
          refine stab_one rfl (fun K hK => ?_)
          go_wp2_with fail
          refine (HSS.out _ HX5.out B4 c4 HR5.out).mono ?_
          rintro e w12 ⟨rfl, hx⟩
          replace HX5 := Lib.hid (HX5.out.trans (hx))
          replace HR5 := Lib.hid (HR5.out.ext (hx))
          replace HXC := Lib.hid (HXC.out.trans (hx))
          clear hx
          go_wp2_with fail
          refine ⟨fun _ => HXC.out, ?_⟩
          refine stab_yes rfl (fun K hK => ?_); go_simp; refine ⟨_, fun _ _ => rfl, hK _ ?_⟩; clear hK K
          refine stab_yes rfl (fun K hK => ?_); go_simp; refine ⟨_, fun _ _ => rfl, hK _ ?_⟩; clear hK K
          refine stab_load rfl 25 (.tmp 3) rfl (.agg #[.int .i64 s, .int .u64 (nn : Int), .int .u64 (f : Int), .int .u64 (x : Int), .slice B4 k c4]) (by first | rfl | go_simp) (fun W hW => L1.out W hW) ?_
          refine stab_load rfl 39 (.tmp 9) rfl (.agg VD) (by first | rfl | go_simp) (fun W hW => L3.out W hW) ?_
          refine stab_one rfl (fun K hK => ?_)
          go_wp2_with fail
          refine (HID.out _ B4 c4 HC4.out HX5.out HR5.out).mono ?_
          rintro e w13 ⟨V2, rfl, hV2, hx⟩
          replace HX5 := Lib.hid (HX5.out.trans (hx))
          replace HR5 := Lib.hid (HR5.out.ext (hx))
          replace HXC := Lib.hid (HXC.out.trans (hx))
          have hq := run_eq_dgc hV2 HV.out (idv_32 _) (idv_32 _) (idv_sm _) (idv_sm _)
          rw [decide_eq_true rfl] at hq
          clear hx
          go_wp2_with fail
          refine ⟨fun _ => HXC.out, ?_⟩
          refine stab_yes rfl (fun K hK => ?_); go_simp; refine ⟨_, fun _ _ => rfl, hK _ ?_⟩; clear hK K
          refine stab_yes rfl (fun K hK => ?_); go_simp; refine ⟨_, fun _ _ => rfl, hK _ ?_⟩; clear hK K
          refine stab_one rfl (fun K hK => ?_)
          go_wp2_with fail
          refine ⟨fun _ => HXC.out, ?_⟩
          clear HXC
          unfold wpStab
          go_wp2
          go_ret
          exact ⟨rfl, HX5.out⟩
        | succ g =>
          have hi : i < ne := by omega
          have hiI : (i : Int) < (ne : Int) := by omega
          obtain ⟨g0, n0, c0, e0, hc0, hz0⟩ := HML.out.spot HSL.out (i := i) (by rw [HLL.out]; exact hi)
          have e1 : g0 = g6 := by injection e0 with e1 _ _; injection e1 with e1; injection e1 with e1 _; exact e1.symm
          rw [e1] at hc0 hz0
          clear e0 e1
          have hp := HSL.out i
          obtain ⟨p, hpp⟩ : ∃ p, co L i = p := ⟨_, rfl⟩
          rw [hpp] at hc0 hp
          obtain ⟨zz, hzz⟩ : ∃ z, p ^^^ 1 = z := ⟨_, rfl⟩
          have hzl : zz < 256 := by rw [← hzz]; exact Gf.xor_lt p 1 hp (by omega)
          have hxx : bits .xor .u8 (p : Int) 1 = (zz : Int) := by rw [← hzz]; exact u8_xor_nat p 1 hp (by omega)
          have HIG := Lib.hid hig
          have HZL := Lib.hid hzl
          clear hig hpp hzz hp hzl
          have hnm := HNM.out
          go_wp2
          go_roundg g
          case measure => omega
          case rel => exact ⟨i + 1, L.set i zz, by have := HIG.out; omega, by go_num, HOL.out.trans (Only.of_grown (grown_set' wr g6 i (.int .u8 (zz : Int))) (fun k e => by injection e with e; exact e.symm)), HML.out.put (by rw [HLL.out]; exact hi), by rw [List.length_set]; exact HLL.out, sm_put HSL.out HZL.out i⟩
    | succ g =>
      have hi : i < k := by omega
      have hiI : (i : Int) < (k : Int) := by omega
      obtain ⟨g0, n0, c0, e0, hc0, hz0⟩ := HML.out.spot HSL.out (i := i) (by rw [HLL.out]; exact hi)
      have e1 : g0 = gd := by injection e0 with e1 _ _; injection e1 with e1; injection e1 with e1 _; exact e1.symm
      rw [e1] at hc0 hz0
      clear e0 e1
      have hp := HSL.out i
      obtain ⟨p, hpp⟩ : ∃ p, co L i = p := ⟨_, rfl⟩
      rw [hpp] at hc0 hp
      obtain ⟨zz, hzz⟩ : ∃ z, p ^^^ 1 = z := ⟨_, rfl⟩
      have hzl : zz < 256 := by rw [← hzz]; exact Gf.xor_lt p 1 hp (by omega)
      have hxx : bits .xor .u8 (p : Int) 1 = (zz : Int) := by rw [← hzz]; exact u8_xor_nat p 1 hp (by omega)
      have HIG := Lib.hid hig
      have HZL := Lib.hid hzl
      clear hig hpp hzz hp hzl
      have d4 := cell_of_row _ gs 4 _ _ _ HDS.out
      go_wp2
      go_roundg g
      case measure => omega
      case rel => exact ⟨i + 1, L.set i zz, by have := HIG.out; omega, by go_num, HOL.out.trans (Only.of_grown (grown_set' wr gd i (.int .u8 (zz : Int))) (fun k e => by injection e with e; exact e.symm)), HML.out.put (by rw [HLL.out]; exact hi), by rw [List.length_set]; exact HLL.out, sm_put HSL.out HZL.out i⟩
end Go.Proofs.YtjifionpblpfoaaDoor

/-
  The code's own Check of layer 16. Conditions: none.
-/
namespace Go.Proofs.YtjifionpblpfoaaDoor
open Go.RowKit
open Pol (co Sm)

set_option maxHeartbeats 1600000 in
theorem ev_check (s : Int) (n f x k c : Nat) (b : List Nat) (A : Option Addr) (w : World) (hk : b.length = k) :
    Calls Tryd.prog 14 #[evv s n f x A k c] w (Tells (.int .i64 ((Ev.chk ⟨s, n, f, x, b⟩ : Nat) : Int)) w) := by
  unfold Ev.chk
  dsimp only
  rw [hk]
  clear hk
  by_cases h1 : s < 0
  · have d1 : decide (s < 0) = true := decide_eq_true h1
    rw [if_pos (.inl h1)]
    go_enter Tryd.func14, Tryd.ntmps14
    go_wp2
    go_ret
    exact ⟨rfl, (Ext.refl _).alloc _⟩
  have d1 : decide (s < 0) = false := decide_eq_false h1
  by_cases h2 : 6 ≤ s
  · have d2 : decide (s ≥ 6) = true := decide_eq_true h2
    have d2' : decide (6 ≤ s) = true := decide_eq_true h2
    rw [if_pos (.inr h2)]
    go_enter Tryd.func14, Tryd.ntmps14
    go_wp2
    go_ret
    exact ⟨rfl, (Ext.refl _).alloc _⟩
  have d2 : decide (s ≥ 6) = false := decide_eq_false h2
  have d2' : decide (6 ≤ s) = false := decide_eq_false h2
  rw [if_neg (by omega)]
  by_cases h3 : 1152921504606846976 < f
  · have d3 : decide ((f : Int) > 1152921504606846976) = true := decide_eq_true (by omega)
    have d3' : decide ((1152921504606846976 : Int) < (f : Int)) = true := decide_eq_true (by omega)
    rw [if_pos h3]
    go_enter Tryd.func14, Tryd.ntmps14
    go_wp2
    go_ret
    exact ⟨rfl, (Ext.refl _).alloc _⟩
  have d3 : decide ((f : Int) > 1152921504606846976) = false := decide_eq_false (by omega)
  have d3' : decide ((1152921504606846976 : Int) < (f : Int)) = false := decide_eq_false (by omega)
  rw [if_neg h3]
  by_cases h4 : k < 1
  · have d4 : decide ((k : Int) < 1) = true := decide_eq_true (by omega)
    rw [if_pos (.inl h4)]
    go_enter Tryd.func14, Tryd.ntmps14
    go_wp2
    go_ret
    exact ⟨rfl, (Ext.refl _).alloc _⟩
  have d4 : decide ((k : Int) < 1) = false := decide_eq_false (by omega)
  by_cases h5 : 32 < k
  · have d5 : decide ((k : Int) > 32) = true := decide_eq_true (by omega)
    have d5' : decide ((32 : Int) < (k : Int)) = true := decide_eq_true (by omega)
    rw [if_pos (.inr h5)]
    go_enter Tryd.func14, Tryd.ntmps14
    go_wp2
    go_ret
    exact ⟨rfl, (Ext.refl _).alloc _⟩
  have d5 : decide ((k : Int) > 32) = false := decide_eq_false (by omega)
  have d5' : decide ((32 : Int) < (k : Int)) = false := decide_eq_false (by omega)
  rw [if_neg (by omega)]
  go_enter Tryd.func14, Tryd.ntmps14
  go_wp2
  go_ret
  exact ⟨rfl, (Ext.refl _).alloc _⟩
end Go.Proofs.YtjifionpblpfoaaDoor

/-
  The builtin copy of bytes to the front of a block of the call's own. Conditions: the block is at least as long.
-/
namespace Go.Proofs.YtjifionpblpfoaaDoor
open Go.RowKit
open Pol (co Sm)

/-- A copy of bytes to the front of a block of the call's own. -/
theorem splice_bt (n : Nat) (f : Nat → Nat) (a : List Nat) (h : a.length ≤ n) : (splice (bt n f).toList 0 (bv a)).toArray = bt n (fun i => if i < a.length then co a i else f i) := by
  apply Array.ext
  · simp [splice, bv_len, bt_size]; omega
  · intro i h1 h2
    have hi : i < n := by rwa [bt_size] at h2
    rw [← Option.some_inj, ← Array.getElem?_eq_getElem, ← Array.getElem?_eq_getElem, bt_at _ _ _ hi]
    simp only [splice, List.take_zero, List.nil_append, Nat.zero_add, List.getElem?_toArray, bv_len]
    by_cases hia : i < a.length
    · rw [List.getElem?_append_left (by rw [bv_len]; exact hia), bv_at a i hia, if_pos hia]
    · rw [List.getElem?_append_right (by rw [bv_len]; omega), List.getElem?_drop, bv_len, if_neg hia, show a.length + (i - a.length) = i from by omega]
      have := bt_at n f i hi
      simpa using this
theorem wpList_copy_blk {ops : Array Oper} {rest : List Oper} {o : Oper} {act : Act} {w : World} {Q : Exit → Act → World → Prop} (hgd : o.guard = none) (d s : Operand)
    (ho : o.op = .call { callee := .builtin .copy, args := #[d, s], argTypes := #[23, 23] }) (g n dc : Nat) (f : Nat → Nat) (hd : act.eval d = .slice (some ⟨g, 0, none⟩) n dc) (hb : Blk w g n f)
    (A : Option Addr) (a : List Nat) (k c : Nat) (hs : act.eval s = .slice A k c) (hk : a.length = k) (hr : Rd w A a) (hn : k ≤ n) (w0 : World) (hx : Ext w0 w) (hg : w0.heap.size ≤ g)
    (h : ∀ w', Hid (Blk w' g n (fun i => if i < a.length then co a i else f i)) → Ext w0 w' → wpList Tryd.prog ops Q rest (act.put o.dst (goInt k)) w') :
    wpList Tryd.prog ops Q (o :: rest) act w := by
  subst hk
  refine wpList_copy_splice hgd d s 23 23 ho 5 Tryd.underlying23 (by kernel_rfl) _ A n dc a.length c hd hs g 0 (bt n f).toList 5 (by unfold Blk at hb; simpa using hb) (bv a) (by rw [bv_len]; exact (Nat.min_eq_left hn).symm)
    (fun hp => ⟨rfl, ?_⟩) (by simp [bv_len, bt_size]; omega) (bv_one a) w0.heap.size w0 hx.below hg ?_
  · rw [bv_len] at hp
    obtain ⟨b, o', e, hc⟩ := hr.addr hp
    refine ⟨_, e, fun j v hj => ?_⟩
    have hj' : j < a.length := by
      have := (List.getElem?_eq_some_iff.1 hj).1
      rwa [bv_len] at this
    rw [addr_add, hc j hj', ← bv_at a j hj', hj]
  · intro w' HG hB
    rw [bv_len]
    refine h w' (Lib.hid ?_) ⟨hB⟩
    unfold Blk
    rw [HG.out, splice_bt n f a hn]
end Go.Proofs.YtjifionpblpfoaaDoor

/-
  What Fill of layer 6 does. Conditions: no more than 2^12 bytes.
-/
namespace Go.Proofs.YtjifionpblpfoaaDoor
open Go.RowKit
open Pol (co Sm)

/-- A copy of bytes somewhere into a block of the call's own. -/
theorem splice_at (n off : Nat) (f : Nat → Nat) (a : List Nat) (h : off + a.length ≤ n) : (splice (bt n f).toList off (bv a)).toArray = bt n (fun i => if off ≤ i ∧ i < off + a.length then co a (i - off) else f i) := by
  apply Array.ext
  · simp [splice, bv_len, bt_size]; omega
  · intro i h1 h2
    have hi : i < n := by rwa [bt_size] at h2
    have hl : (bt n f).toList.length = n := by simp [bt_size]
    have hb : ∀ j, j < n → (bt n f).toList[j]? = some (.int .u8 ((f j : Nat) : Int)) := fun j hj => by simpa using bt_at n f j hj
    rw [← Option.some_inj, ← Array.getElem?_eq_getElem, ← Array.getElem?_eq_getElem, bt_at _ _ _ hi]
    simp only [splice, List.getElem?_toArray, bv_len]
    by_cases h1 : i < off
    · rw [List.getElem?_append_left (by rw [List.length_take, hl]; omega), List.getElem?_take, if_pos h1, if_neg (by omega), hb i hi]
    · rw [List.getElem?_append_right (by rw [List.length_take, hl]; omega), List.length_take, hl, Nat.min_eq_left (by omega)]
      by_cases hia : i - off < a.length
      · rw [List.getElem?_append_left (by rw [bv_len]; exact hia), bv_at a _ hia, if_pos (by omega)]
      · rw [List.getElem?_append_right (by rw [bv_len]; omega), List.getElem?_drop, bv_len, if_neg (by omega), show off + a.length + (i - off - a.length) = i from by omega, hb i hi]
theorem wpList_copy_at {ops : Array Oper} {rest : List Oper} {o : Oper} {act : Act} {w : World} {Q : Exit → Act → World → Prop} (hgd : o.guard = none) (d s : Operand)
    (ho : o.op = .call { callee := .builtin .copy, args := #[d, s], argTypes := #[23, 23] }) (g n off dl dc : Nat) (X : Option Addr) (f : Nat → Nat) (hd : act.eval d = .slice X dl dc) (hb : Blk w g n f)
    (A : Option Addr) (a : List Nat) (k c : Nat) (hs : act.eval s = .slice A k c) (hk : a.length = k) (hr : Rd w A a) (hX : 0 < k → X = some ⟨g, off, none⟩) (hdl : k ≤ dl) (hn : off + k ≤ n) (w0 : World) (hx : Ext w0 w) (hg : w0.heap.size ≤ g)
    (h : ∀ w', Hid (Blk w' g n (fun i => if off ≤ i ∧ i < off + k then co a (i - off) else f i)) → Ext w0 w' → wpList Tryd.prog ops Q rest (act.put o.dst (goInt k)) w') :
    wpList Tryd.prog ops Q (o :: rest) act w := by
  subst hk
  refine wpList_copy_splice hgd d s 23 23 ho 5 Tryd.underlying23 (by kernel_rfl) X A dl dc a.length c hd hs g off (bt n f).toList 5 (by unfold Blk at hb; simpa using hb) (bv a) (by rw [bv_len]; exact (Nat.min_eq_left hdl).symm)
    (fun hp => ⟨hX (by rwa [bv_len] at hp), ?_⟩) (by simp [bv_len, bt_size]; omega) (bv_one a) w0.heap.size w0 hx.below hg ?_
  · rw [bv_len] at hp
    obtain ⟨b, o', e, hc⟩ := hr.addr hp
    refine ⟨_, e, fun j v hj => ?_⟩
    have hj' : j < a.length := by
      have := (List.getElem?_eq_some_iff.1 hj).1
      rwa [bv_len] at this
    rw [addr_add, hc j hj', ← bv_at a j hj', hj]
  · intro w' HG hB
    rw [bv_len]
    refine h w' (Lib.hid ?_) ⟨hB⟩
    unfold Blk
    rw [HG.out, splice_at n off f a hn]
set_option maxHeartbeats 800000 in
theorem j_fill_no (n : Nat) (m : Int) (A : Option Addr) (ca : Nat) (w : World) (h : ¬ FillOk n m) :
    Calls Tryd.prog 45 #[.slice A n ca, .int .i64 m] w (GivesE [] 6 w) := by
  unfold FillOk at h
  by_cases h1 : m < 1
  · have d1 : decide (m < 1) = true := decide_eq_true h1
    clear h
    go_enter Tryd.func45, Tryd.ntmps45
    go_wp2
    go_ret2
    exact ⟨_, rfl, sl_none _, Ext.refl w⟩
  have d1 : decide (m < 1) = false := decide_eq_false h1
  by_cases h2 : 256 < m
  · have d2 : decide (256 < m) = true := decide_eq_true h2
    clear h
    go_enter Tryd.func45, Tryd.ntmps45
    go_wp2
    go_ret2
    exact ⟨_, rfl, sl_none _, Ext.refl w⟩
  have d2 : decide (256 < m) = false := decide_eq_false h2
  have d3 : decide (m ≤ (n : Int)) = true := decide_eq_true (by omega)
  clear h
  go_enter Tryd.func45, Tryd.ntmps45
  go_wp2
  go_ret2
  exact ⟨_, rfl, sl_none _, Ext.refl w⟩

set_option maxHeartbeats 1600000 in
set_option maxRecDepth 100000 in
theorem j_fill (t : List Nat) (m : Nat) (A : Option Addr) (ca : Nat) (w : World) (hr : Rd w A t) (h : FillOk t.length (m : Int)) :
    Calls Tryd.prog 45 #[.slice A t.length ca, .int .i64 (m : Int)] w (GivesE (fil t m) 0 w) := by
  obtain ⟨h1, h2, h3⟩ := h
  have HFS := Lib.hid (fil_sm (m := m) hr.1 (by omega))
  have HFL := Lib.hid (fil_len t m)
  have HCO := Lib.hid (fun i (hi : t.length ≤ i) => Pol.co_out t i hi)
  have HFE := Lib.hid (show fil t m = tab m (fun i => if i = 0 then t.length else co t (i - 1)) from rfl)
  have HR := Lib.hid hr
  clear hr
  generalize hn : t.length = n at *
  have HN := Lib.hid hn
  clear hn
  have d1 : decide ((m : Int) < 1) = false := decide_eq_false (by omega)
  have d2 : decide (256 < (m : Int)) = false := decide_eq_false (by omega)
  have d3 : decide (m ≤ n) = false := decide_eq_false (by omega)
  have ew : IntKind.u8.wrap (n : Int) = (n : Int) := IntWalk.u8_in _ (by omega)
  have hmk := run_make_u8 m (by omega) w
  have hm0 : (0 : Int) < (m : Int) := by omega
  obtain ⟨X, hX, _, hXa⟩ := run_rest_u8 (some ⟨w.heap.size, 0, none⟩) m m 1 (by omega) (Nat.le_refl _)
  have hX' : ∀ W, (Instr.slice 23 (.slice (some ⟨w.heap.size, 0, none⟩) m m) (some (.int .i64 1)) none none).run Tryd.prog W = .ok (.slice X (m - 1) (m - 1)) W := hX
  obtain ⟨m1, hm1⟩ : ∃ m1, m - 1 = m1 := ⟨_, rfl⟩
  rw [hm1] at hX'
  have HM1 := Lib.hid hm1
  have HXA := Lib.hid (show 0 < n → X = some ⟨w.heap.size, 1, none⟩ from fun h => hXa _ _ (by omega) rfl)
  obtain ⟨wa, hwa⟩ : ∃ wa, w.alloc (.cells (bt m fun _ => 0) 5) = wa := ⟨_, rfl⟩
  have hb0 : Blk wa w.heap.size m (fun _ => 0) := hwa ▸ Blk.new w m _
  have hxa : Ext w wa := hwa ▸ (Ext.refl w).alloc _
  have hc0 := hb0.cell 0 (by omega)
  have hf0 := hb0.frozen 0
  have HB1 := Lib.hid (hb0.store 0 n)
  have HX1 := Lib.hid (hxa.setCell (p := ⟨w.heap.size, 0, none⟩) (Nat.le_refl _) (.int .u8 (n : Int)))
  rw [hwa] at hmk
  clear hX hXa hm1 hb0 hxa hwa
  go_enter Tryd.func45, Tryd.ntmps45
  go_wp2_with (with_reducible refine wpList_copy_at rfl (.tmp 27) (.tmp 28) rfl w.heap.size m 1 m1 m1 X _ rfl HB1.out A t n ca rfl HN.out (HR.out.ext HX1.out) HXA.out (by have := HM1.out; omega) (by have := HM1.out; omega) w HX1.out (Nat.le_refl _) ?_; intro w2 HB2 hx2)
  have HX2 := Lib.hid hx2
  clear hx2
  go_wp2
  go_ret2
  refine ⟨_, rfl, ⟨_, _, by rw [HFL.out]; rfl, by rw [HFL.out]; exact Nat.le_refl _, ?_⟩, HX2.out⟩
  have hb := HB2.out.congr (f' := fun i => if i = 0 then n else co t (i - 1)) (fun i _ => by
    unfold upd
    by_cases e : i = 0
    · subst e; rw [if_neg (by omega), if_pos rfl, if_pos rfl]
    · rw [if_neg e, if_neg e]
      by_cases h : i < 1 + n
      · rw [if_pos (by omega)]
      · rw [if_neg (by omega), HCO.out _ (by omega)])
  rw [HFE.out]
  refine hb.reads fun i _ => ?_
  have h := HFS.out i
  rw [HFE.out, co_tab] at h
  split at h
  · exact h
  · omega
end Go.Proofs.YtjifionpblpfoaaDoor

/-
  A byte; what the field's own sum does. Conditions: none beyond the kinds of the arguments.
-/
namespace Go.Proofs.YtjifionpblpfoaaDoor
open Go.RowKit

/-- A byte. -/
def U (n : Nat) : Value := .int .u8 (n : Int)

theorem add_any (x y : Int) (w : World) :
    Calls Tryd.prog 67 #[.int .u8 x, .int .u8 y] w fun e w' => e = .returned (.int .u8 (bits .xor .u8 x y)) ∧ w = w' := by
  go_enter Tryd.func67, Tryd.ntmps67
  go_wp2
  go_ret
  exact ⟨rfl, rfl⟩
theorem add_is (a b v : Nat) (ha : a < 256) (hb : b < 256) (h : a ^^^ b = v) (w : World) :
    Calls Tryd.prog 67 #[.int .u8 (a : Int), .int .u8 (b : Int)] w fun e w' => e = .returned (.int .u8 (v : Int)) ∧ w = w' := by
  have := add_any a b w
  rw [u8_xor_nat a b ha hb, h] at this
  exact this
end Go.Proofs.YtjifionpblpfoaaDoor

/-
  A region that draws its order, whose first operations leave every world of a class in that class and yield the same values in all of them, and whose last operations follow in a forced order: one walk of the text's order serves every order. Conditions: none; of no program in particular.
-/
namespace Go.Proofs.YtjifionpblpfoaaDoor
open Go

section
variable {P : Program} {ops : Array Oper} {md : Region.Mode} {C : World → Prop}

/-- f operations below n come up in whatever order, each quiet in the class; then L. -/
def ahead (P : Program) (md : Region.Mode) (ops : Array Oper) (C : World → Prop) (n : Nat) (L : Array Bool → Act → Prop) : Nat → Array Bool → Act → Prop
  | 0, listed, a => L listed a
  | f + 1, listed, a => Region.ready md ops listed ≠ [] ∧ ∀ i, i ∈ Region.ready md ops listed → i < n ∧ qOp P ops C i (ahead P md ops C n L f (listed.setIfInBounds i true)) a

theorem wpAny_of_ahead {n g : Nat} {L : Array Bool → Act → Prop} {Q' : Exit → Act → World → Prop} (hL : ∀ listed a w, C w → L listed a → wpAny P md ops Q' g listed a w) (f : Nat) :
    ∀ (listed : Array Bool) (a : Act) (w : World), C w → ahead P md ops C n L f listed a → wpAny P md ops Q' (f + g) listed a w := by
  induction f with
  | zero => intro listed a w hw h; rw [Nat.zero_add]; exact hL _ _ _ hw h
  | succ f ih =>
    intro listed a w hw h
    rw [Nat.succ_add]
    exact ⟨fun h0 => absurd h0 h.1, fun i hi => wpOp_of_qOp hw (fun a' w' hw' h' => ih _ a' w' hw' h') (h.2 i hi).2⟩

/-- What may come up now may be taken first. -/
theorem ahead_first {n i : Nat} {oi : Oper} {v : Value} {L : Array Bool → Act → Prop} (hi : ops[i]? = some oi) (hsel : ∀ (j : Nat) (o : Oper) cs b, ops[j]? = some o → o.op ≠ .select cs b)
    (hs : Region.sinkB md ops n = true) (hc : Region.chainB md ops n = true) (hn : n < ops.size) (hin : i < n)
    (hdone : ∀ listed a, L listed a → ∀ j ∈ Region.ready md ops listed, n ≤ j) (f : Nat) :
    ∀ (listed : Array Bool) (a : Act), HeadInv md ops n listed →
      (∀ j oj, ops[j]? = some oj → j ≠ i → listed.getD j true = false → (∀ e ∈ oj.after, Region.binds md e = true → e.on ≠ i) → oi.apart ops oj = true) →
      i ∈ Region.ready md ops listed → YieldsIn P ops C oi v a →
      ahead P md ops C n L f (listed.setIfInBounds i true) (a.put oi.dst v) → ahead P md ops C n L (f + 1) listed a := by
  induction f with
  | zero =>
    intro listed a inv _ hr hy H
    refine ⟨List.ne_nil_of_mem hr, fun j hj => ?_⟩
    have hjn : j < n := Nat.lt_of_not_le fun h => tail_waits hs hc hn inv _ i rfl hin (mem_ready.1 hr).1 j h hj
    by_cases hji : j = i
    · subst hji; exact ⟨hjn, hy.qOp hi H⟩
    · exact absurd (hdone _ _ H j (ready_mono hj hji)) (by omega)
  | succ f ih =>
    intro listed a inv hfree hr hy H
    have hun := (mem_ready.1 hr).1
    refine ⟨List.ne_nil_of_mem hr, fun j hj => ?_⟩
    have hjn : j < n := Nat.lt_of_not_le fun h => tail_waits hs hc hn inv _ i rfl hin hun j h hj
    by_cases hji : j = i
    · subst hji; exact ⟨hjn, hy.qOp hi H⟩
    obtain ⟨hjun, oj, hoj, hall⟩ := mem_ready.1 hj
    have hap := hfree j oj hoj hji hjun fun e he hb heq => by
      have h1 := hall e he hb
      rw [heq, getD_both hun] at h1
      cases h1
    refine ⟨hjn, qOp_mono (fun a' h3 => ih (listed.setIfInBounds j true) a' (inv.set hj hjn) ?_ (ready_mono hr (Ne.symm hji)) h3.1 ?_)
      (qOp_put hoj hap (fun cs b => hsel i oi cs b hi) (fun cs b => hsel j oj cs b hoj) hy (H.2 j (ready_mono hj hji)).2)⟩
    · intro k ok hk hki hu hno
      refine hfree k ok hk hki ?_ hno
      by_cases hjk : j = k
      · subst hjk; exact hjun
      · rwa [getD_set_ne true hjk] at hu
    · rw [Array.setIfInBounds_comm _ _ hji]; exact h3.2

theorem ahead_lex {n g : Nat} {Lq : Act → Prop} (hsel : Region.noSelect ops = true) (hs : Region.sinkB md ops n = true) (hc : Region.chainB md ops n = true) (hn : n < ops.size) (l : List Oper) :
    ∀ (k : Nat) (listed : Array Bool) (a : Act), (∀ j, j < l.length → l[j]? = ops[k + j]?) → k + l.length = n → HeadInv md ops n listed →
    Region.lexHead md ops g l.length k listed = true → wpQuiet P ops C Lq l a →
    ahead P md ops C n (fun listed' a' => Region.seqB md ops g n listed' = true ∧ Lq a') l.length listed a := by
  induction l with
  | nil =>
    intro k listed a _ hk _ hB h
    obtain rfl : k = n := by simpa using hk
    exact ⟨by simpa [Region.lexHead] using hB, h⟩
  | cons o l ih =>
    intro k listed a hl hk inv hB h
    have h0 : ops[k]? = some o := by simpa using (hl 0 (by simp)).symm
    simp only [List.length_cons, Region.lexHead, Bool.and_eq_true] at hB hk
    have hr : k ∈ Region.ready md ops listed := by simpa using hB.1.1
    obtain ⟨v, hy, hK⟩ := yieldsIn_of_qOp (C := C) (K := wpQuiet P ops C Lq l) h0 (by unfold qOp; simp only [h0]; exact h)
    refine ahead_first h0 (Region.noSelect_spec hsel) hs hc hn (by omega) (fun _ _ hL => seqB_ready hL.1) l.length listed a inv (Region.free_spec h0 hB.1.2) hr hy ?_
    exact ih (k + 1) _ _ (fun j hj => by have := hl (j + 1) (by simp; omega); simpa [Nat.add_assoc, Nat.add_comm 1 j] using this) (by omega) (inv.set hr (by omega)) hB.2 hK

theorem any_quiet_tail {Q : Exit → Act → World → Prop} {a : Act} {w : World} {l : List Oper} (n : Nat) (C : World → Prop) (hB : Region.lexTailB .any l.toArray n = true) (hC : C w.drew)
    (h : wpQuiet P l.toArray C (fun a' => ∀ w', C w' → wpList P l.toArray Q (l.drop n) a' w') (l.take n) a) : wpAny P .any l.toArray Q l.toArray.size (Array.replicate l.toArray.size false) a w.drew := by
  simp only [Region.lexTailB, Bool.and_eq_true, decide_eq_true_eq] at hB
  obtain ⟨⟨⟨⟨hsel, hn⟩, hs⟩, hc⟩, hlex⟩ := hB
  have hn' : n < l.length := by simpa using hn
  have htl : (l.take n).length = n := by rw [List.length_take]; omega
  have hdl : (l.drop n).length = l.toArray.size - n := by simp
  have inv0 : HeadInv .any l.toArray n (Array.replicate l.toArray.size false) :=
    ⟨by simp, fun j oj _ hl => (by rw [getD_replicate_false] at hl; cases hl), fun t _ ht => getD_in (by simpa using ht) (getD_replicate_false _ _)⟩
  have H := ahead_lex (md := .any) (g := l.toArray.size - n) (C := C) hsel hs hc hn (l.take n) 0 _ a (fun j hj => by
    have hj' : j < n := by rwa [htl] at hj
    simp [hj']) (by rw [htl]; exact Nat.zero_add n) inv0 (by rw [htl]; exact hlex) h
  have key := wpAny_of_ahead (C := C) (Q' := Q) (g := l.toArray.size - n) (fun listed a' w' hw' hL => by
    have := wpAny_of_seq (md := .any) (Q' := Q) (l.drop n) n listed a' w' (fun j => by simp [List.getElem?_drop]) (by rw [hdl]; exact hL.1) (hL.2 w' hw')
    rwa [hdl] at this) _ _ _ _ hC H
  rw [htl, show n + (l.toArray.size - n) = l.toArray.size by omega] at key
  exact key
theorem wp_region_quiet_tail {id : Nat} {Q : Exit → Act → World → Prop} {a : Act} {w : World} {l : List Oper} (n : Nat) (C : World → Prop) (hm : P.follows .mixedOrders = true) (hB : Region.lexTailB .any l.toArray n = true) (hC : C w.drew)
    (h : wpQuiet P l.toArray C (fun a' => ∀ w', C w' → wpList P l.toArray Q (l.drop n) a' w') (l.take n) a) : (Code.region id l.toArray true).wp P Q a w :=
  wp_region_any hm (any_quiet_tail n C hB hC h)
end
end Go.Proofs.YtjifionpblpfoaaDoor
